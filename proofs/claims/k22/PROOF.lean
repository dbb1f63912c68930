import PyProof.Rows.All
import Wide.All
import OpenK.AllK
import Wide.FinOn
import Lean
import PyProof.EqAt
import PyProof.EqKinds
import PyProof.TupleCall
import KE.KDictOf
import PyProof.AttrMiss
import PyProof.IsiH_list
import PySem.SetOps
import KE.KEqDict
import KE.KItemsList
import KE.KDictSum
import KE.KRevSl
import PyProof.Rows.SortStr
import PyProof.Rows.SortWalk
import PyProof.DictWalks
import PyProof.StrLawsTight
import KE.KIntText
import PyProof.Rows.StrIntSpec
import PyProof.StrLawsJoin
import KE.KTryMore
import PyProof.NsDelKeeps
import PyProof.ExcAttrAll.ValueError
import PyProof.StrReplace2
import PyProof.ReprStr
import PyProof.Rows.RuleU_int
import KE.RegKIsAll
import KE.RegKTryMore
import PyProof.InstStoreFacts
import PyProof.ExcInit
import KE.KMinBuiltin
import PyProof.MinMaxWalk
import PyProof.Rows.CallKwBuiltin
import PyProof.WalkInts
import PyProof.DictWalks
import PyProof.ListIndex
import KE.KDictList
import PySem.Challenge.RW_shopbound_k22_lengths_and_ends
set_option Elab.async false
set_option linter.all false
set_option maxRecDepth 100000
theorem oBd {α:Type u} {β:Type v} {o:Option α} {f:α->Option β} {b:β} (h:o.bind f=some b):∃ a,o=some a/\f a=some b:=Option.bind_eq_some_iff.mp h
theorem oMd {α:Type u} {β:Type v} {o:Option α} {f:α->β} {b:β} (h:o.map f=some b):∃ a,o=some a/\f a=b:=Option.map_eq_some_iff.mp h
noncomputable section
section
open PySem PySem.Spec PyProof.Rows
def qc:=@Option.bind_some
def qd:=@List.getElem?_cons_zero
def qe:=@List.getElem?_cons_succ
def qf:=@Option.map_some
def qg:=@List.length_map
def qh:=@List.mem_cons_self
def qi:=@List.mem_cons_of_mem
def qj:=@List.length_cons
def qk:=@List.length_append
def qm:=@List.getElem?_map
def qo:=@List.length_nil
def qp:=@List.map_cons
def qq:=@List.map_map
def qr:=@List.cons_append
def qt:=@Bool.false_ne_true
def qu:=@Heap.get?_push_of_some
def qv:=@Heap.lt_size
def qw:=@Nat.le_refl
def qx:=@wpAny_bind
def qy:=@List.getElem?_append_left
def qz:=@wpAny_pure
def qA:=@List.size_toArray
def qB:=@Nat.ne_of_lt
def qC:=@List.getElem?_eq_getElem
def qD:=@List.length_take
def qE:=@Nat.lt_of_lt_of_le
def qF:=@Heap.get?_push_size
def qG:=@Option.some.inj
def qH:=@List.not_mem_nil
def qI:=@List.getElem?_append_right
def qJ:=@List.mem_cons
def qK:=@Nat.le_trans
def qL:=@decide_eq_false
def qM:=@List.map_nil
def qN:=@List.mem_of_getElem?
def qO:=@List.mem_append_right
def qP:=@List.nil_append
def qQ:=@decide_eq_true
def qR:=@Int.emod_lt_of_pos
def qS:=@List.mem_map_of_mem
def qT:=@Int.emod_nonneg
def qU:=@if_pos
def qV:=@if_neg
end
section
namespace L2
open PySem PySem.Spec PyProof.Rows
abbrev Key:=Sum Int Str
def zlU:Key->Value->Bool
 | .inl k,v=>Value.isInt k v
 | .inr x,v=>Value.isStrOf x v
def zvL (w:World):Key->Int
 | .inl k=>hashInt k
 | .inr x=>hashStr w x
theorem zbE:∀ {k:Key} {v:Value},zlU k v=true->(∃ i t,k=Sum.inl i/\v=Value.int i t)\/(∃ x t,k=Sum.inr x/\v=Value.str x t)
 | .inl i,v,h=>by
  obtain ⟨t,e⟩:=Value.isInt_shape (k:=i) (v:=v) h
  exact .inl ⟨i,t,rfl,e⟩
 | .inr x,v,h=>by
  obtain ⟨t,e⟩:=Value.isStrOf_shape (x:=x) (v:=v) h
  exact .inr ⟨x,t,rfl,e⟩
theorem zng (i:Int) (t:Tok):zlU (.inl i) (.int i t)=true:=by simp [zlU,Value.isInt]
theorem znf (x:Str) (t:Tok):zlU (.inr x) (.str x t)=true:=by simp [zlU,Value.isStrOf]
theorem ztg (a b:Int):decide ((Sum.inl a:Key)=Sum.inl b)=(a==b):=by
 by_cases e:a=b
 ·subst e;simp
 ·have h:¬ (Sum.inl a:Key)=Sum.inl b:=fun q=>e (Sum.inl.inj q)
  rw [qL h]
  exact (beq_eq_false_iff_ne.mpr e).symm
theorem ztd (a b:Str):decide ((Sum.inr a:Key)=Sum.inr b)=decide (a=b):=by
 by_cases e:a=b
 ·subst e;simp
 ·have h:¬ (Sum.inr a:Key)=Sum.inr b:=fun q=>e (Sum.inr.inj q)
  rw [qL h,qL e]
theorem ztf (a:Int) (b:Str):decide ((Sum.inl a:Key)=Sum.inr b)=false:=qL (fun q=>nomatch q)
theorem zte (a:Str) (b:Int):decide ((Sum.inr a:Key)=Sum.inl b)=false:=qL (fun q=>nomatch q)
def zaM (prog:Program) (w:World):PySem.KeyKind prog w Key where
 is:=zlU
 hash:=zvL w
 inj:=fun v a b ha hb=>by
  rcases zbE ha with ⟨i,t,rfl,rfl⟩ | ⟨x,t,rfl,rfl⟩
  ·rcases zbE hb with ⟨j,u,rfl,e⟩ | ⟨y,u,rfl,e⟩
   ·injection e with e1 _;rw [e1]
   ·exact nomatch e
  ·rcases zbE hb with ⟨j,u,rfl,e⟩ | ⟨y,u,rfl,e⟩
   ·exact nomatch e
   ·injection e with e1 _;rw [e1]
 byValue:=fun k v h=>by
  rcases zbE h with ⟨i,t,rfl,rfl⟩ | ⟨x,t,rfl,rfl⟩ <;> rfl
 pyHash:=fun hv h=>by
  rcases zbE hv with ⟨i,t,rfl,rfl⟩ | ⟨x,t,rfl,rfl⟩
  ·exact wpAny_pyHash_int h
  ·exact wpAny_pyHash_str h
 eqBool:=fun hu hv h=>by
  rcases zbE hu with ⟨i,t,rfl,rfl⟩ | ⟨x,t,rfl,rfl⟩
  ·rcases zbE hv with ⟨j,u,rfl,rfl⟩ | ⟨y,u,rfl,rfl⟩
   ·rw [ztg] at h;exact wpAny_eqBool_int h
   ·rw [ztf] at h;exact SeqAt.EqAt.int_str i t y u _ _ _ _ h
  ·rcases zbE hv with ⟨j,u,rfl,rfl⟩ | ⟨y,u,rfl,rfl⟩
   ·rw [zte] at h;exact SeqAt.EqAt.str_int x t j u _ _ _ _ h
   ·rw [ztd] at h;exact wpAny_eqBool_str h
 «strs»:=fun k x t v h=>by
  rcases zbE h with ⟨i,u,rfl,e⟩ | ⟨y,u,rfl,e⟩
  ·exact nomatch e
  ·injection e with e1 _
   subst e1
   cases v <;> rfl
theorem zko (prog:Program) (w:World) (i:Int) (t:Tok):(zaM prog w).is (.inl i) (.int i t)=true:=zng i t
theorem zkn (prog:Program) (w:World) (x:Str) (t:Tok):(zaM prog w).is (.inr x) (.str x t)=true:=znf x t
end L2
namespace L2
open PySem PySem.Spec PyProof.Rows
inductive V where
 | non | bl (b:Bool) | int (i:Int) | str (x:Str) | byt (b:Array UInt8) | flt (b:UInt64) | ref (a:Addr) | ty (n:String)
 deriving DecidableEq
def zca:V->Value->Prop
 | .non,u=>u=Value.none
 | .bl b,u=>u=Value.bool b
 | .int i,u=>∃ t,u=Value.int i t
 | .str x,u=>∃ t,u=Value.str x t
 | .byt b,u=>∃ t,u=Value.bytes b t
 | .flt b,u=>∃ t,u=Value.float b t
 | .ref a,u=>u=Value.ref a
 | .ty n,u=>u=Value.type n
abbrev zbS:List V->List Value->Prop:=Paired zca
theorem zbS.length {xs:List V} {us:List Value} (r:zbS xs us):xs.length=us.length:=Paired.length r
theorem zbS.get:∀ {xs:List V} {us:List Value} {i:Nat} {x:V},zbS xs us->xs[i]?=some x->∃ u,us[i]?=some u/\zca x u
 | _,_,_,_,.nil,e=>by simp at e
 | _,_,0,_,.cons r _,e=>by simp at e;subst e;exact ⟨_,rfl,r⟩
 | _,_,i+1,x,.cons _ t,e=>by
  obtain ⟨u,h1,h2⟩:=zbS.get (i:=i) (x:=x) t (by simpa using e)
  exact ⟨u,by simpa using h1,h2⟩
theorem zbS.set {x:V} {u:Value} (r:zca x u):∀ {xs:List V} {us:List Value} (i:Nat),zbS xs us->zbS (xs.set i x) (us.set i u)
 | _,_,_,.nil=>.nil
 | _,_,0,.cons _ t=>.cons r t
 | _,_,i+1,.cons q t=>.cons q (zbS.set r i t)
theorem zbS.append:∀ {xs ys:List V} {us ws:List Value},zbS xs us->zbS ys ws->zbS (xs++ys) (us++ws)
 | _,_,_,_,.nil,s=>s
 | _,_,_,_,.cons r t,s=>.cons r (zbS.append t s)
theorem zbS.take:∀ {xs:List V} {us:List Value} (n:Nat),zbS xs us->zbS (xs.take n) (us.take n)
 | _,_,0,_=>.nil
 | _,_,_+1,.nil=>.nil
 | _,_,n+1,.cons r t=>.cons r (zbS.take n t)
theorem zbS.drop:∀ {xs:List V} {us:List Value} (n:Nat),zbS xs us->zbS (xs.drop n) (us.drop n)
 | _,_,0,r=>r
 | _,_,_+1,.nil=>.nil
 | _,_,n+1,.cons _ t=>zbS.drop n t
def zim:Option V->Option Value->Prop
 | some v,some u=>zca v u
 | none,none=>True
 | _,_=>False
def KV {κ:Type}:List (κ×V)->List (κ×Value)->Prop:=Paired fun (p:κ×V) (q:κ×Value)=>p.1=q.1/\zca p.2 q.2
def kV:Key->V
 | .inl i=>.int i
 | .inr x=>.str x
inductive HO where
 | lst (xs:List V)
 | tup (xs:List V)
 | dK (kvs:List (Key×V)) | dT (kvs:List (List Key×V))
 | set (S:Int->Bool) (n:Nat)
 | ins (C dx:Addr) (fs:List (Str×V))
 | own (x:Addr)
 | xd (fs:List (Str×V))
 | met (f x:Addr)
 | rng (lo hi:Int)
 | frz (o:Obj) (u:HO)
 | tbl (ps:Array Value)
 | ext (φ:Heap->Prop)
abbrev Hp:=Addr->Option HO
def upd (H:Hp) (a:Addr) (o:HO):Hp:=fun b=>if b=a then some o else H b
theorem zav {H:Hp} {a:Addr} {o:HO}:upd H a o a=some o:=by unfold upd;rw [qU rfl]
theorem zap {H:Hp} {a b:Addr} {o:HO} (h:b≠a):upd H a o b=H b:=by unfold upd;rw [qV h]
theorem zp5 {H:Hp} {a:Addr} {o u:HO}:upd (upd H a o) a u=upd H a u:=by
 funext b;unfold upd;split <;> rfl
theorem zs8 {H:Hp} {a b:Addr} {o u:HO} (h:H a=some o) (h':H b=some u) (d:o≠u):a≠b:=by
 intro e;subst e;rw [h] at h';exact d (qG h')
theorem zan {H:Hp} {a b:Addr} {o:HO} (h:H a=some o) (h':H b=none):a≠b:=by
 intro e;subst e;rw [h] at h';cases h'
section
variable (P:Program) (w:World)
def zcn (H:Hp) (h:Heap) (a:Addr):HO->Prop
 | .lst xs=>xs.length<=sizeLine/\∃ (its:List Value) (n:Nat),zbS xs its/\h.get? a=some { cls:=.type "list",data:=.seq its.toArray n }
 | .tup xs=>xs.length<=sizeLine/\∃ its:List Value,zbS xs its/\IsTup h a its.toArray
 | .dK kvs=>kvs.length<=sizeLine/\(a==sysModules)=false/\∃ vs,KV kvs vs/\h.DictOf (zaM P w) a vs
 | .dT kvs=>kvs.length<=sizeLine/\(a==sysModules)=false/\∃ xs:List (List Key×Addr×Value),
   Paired (fun (p:List Key×V) (q:List Key×Addr×Value)=>p.1=q.1/\H q.2.1=some (.tup (p.1.map kV))/\zca p.2 q.2.2) kvs xs /\
   ∃ o es ep,h.get? a=some o/\o.ExactDict/\o.data=.dict es ep/\es.toList=xs.map (entryOfKey (tupleKind (zaM P w)))/\(xs.map (·.1)).Nodup
 | .set S n=>h.SetOf (intKind P w) a S n
 | .ins C dx fs=>H dx=some (.own a)/\fs.length<=1000/\dx≠a/\h.get? a=some (PySem.W.instObj C dx) /\
   ∃ mA,h.Ns1 dx mA/\(∀ f,zim (fs.lookup f) (mA f))/\PySem.Within mA (fs.map (·.1))
 | .own _=>∃ o,h.get? a=some o
 | .xd fs=>∃ mA,h.Ns1 a mA/\∀ f,zim (fs.lookup f) (mA f)
 | .rng lo hi=>∃ t u v,h.get? a=some { cls:=.type "range",data:=.fields #[.int lo t,.int hi u,.int 1 v] }
 | .frz o u=>h.get? a=some o/\zcn H h a u
 | .tbl ps=>h.get? a=some { cls:=.none,data:=.fields ps }
 | .met f x=>h.get? a=some (PySem.W.methodObj (.ref f) (.ref x))
 | .ext φ=>φ h/\(∃ o,h.get? a=some o)/\∀ h1 h2:Heap,φ h1->(∀ o,h1.get? a=some o->h2.get? a=some o)->φ h2
def HOk (H:Hp) (h:Heap):Prop:=∀ a o,H a=some o->zcn P w H h a o
end
section
variable {P:Program} {w:World} {H H':Hp} {h h':Heap} {a:Addr} {o:HO}
theorem zcn.lt (x:zcn P w H h a o):a < h.objs.size:=by
 cases o with
 | lst xs=>obtain ⟨_,_,_,_,e⟩:=x;exact qv e
 | tup xs=>obtain ⟨_,_,_,p⟩:=x;exact p.lt
 | dK kvs=>obtain ⟨_,_,_,_,o,_,_,e,_⟩:=x;exact qv e
 | dT kvs=>obtain ⟨_,_,_,_,o,_,_,e,_⟩:=x;exact qv e
 | set S n=>obtain ⟨o,_,_,_,e,_⟩:=x;exact qv e
 | ins C dx fs=>obtain ⟨_,_,_,e,_⟩:=x;exact qv e
 | own y=>obtain ⟨_,e⟩:=x;exact qv e
 | xd fs=>obtain ⟨_,⟨_,_,_,e,_⟩,_⟩:=x;exact qv e
 | rng lo hi=>obtain ⟨_,_,_,e⟩:=x;exact qv e
 | frz ob u=>obtain ⟨e,_⟩:=x;exact qv e
 | tbl ps=>exact qv (show h.get? a=some _ from x)
 | met f y=>exact qv (show h.get? a=some _ from x)
 | ext φ=>obtain ⟨_,⟨_,e⟩,_⟩:=x;exact qv e
theorem Paired.mapP {α β:Type} {F G:α->β->Prop}:∀ {l₁:List α} {l₂:List β},Paired F l₁ l₂->(∀ a b,F a b->G a b)->Paired G l₁ l₂
 | _,_,.nil,_=>.nil
 | _,_,.cons r t,f=>.cons (f _ _ r) (Paired.mapP t f)
theorem zcn.stay (x:zcn P w H h a o) (k:∀ b u,(b=a\/H b=some (.own a))->h.get? b=some u->h'.get? b=some u)
  (ho:∀ b,H b=some (.own a)->H' b=some (.own a)) (ht:∀ b xs,H b=some (.tup xs)->H' b=some (.tup xs)):zcn P w H' h' a o:=by
 induction o with
 | lst xs=>obtain ⟨z,its,n,r,e⟩:=x;exact ⟨z,its,n,r,k _ _ (.inl rfl) e⟩
 | tup xs=>obtain ⟨z,its,r,ob,e,c⟩:=x;exact ⟨z,its,r,ob,k _ _ (.inl rfl) e,c⟩
 | dK kvs=>obtain ⟨z,y,vs,r,ob,es,ep,e,c⟩:=x;exact ⟨z,y,vs,r,ob,es,ep,k _ _ (.inl rfl) e,c⟩
 | dT kvs =>
  obtain ⟨z,y,xs,r,ob,es,ep,e,c⟩:=x
  exact ⟨z,y,xs,Paired.mapP r fun p q z=>⟨z.1,ht _ _ z.2.1,z.2.2⟩,ob,es,ep,k _ _ (.inl rfl) e,c⟩
 | set S n=>obtain ⟨ob,es,ep,t,e,c⟩:=x;exact ⟨ob,es,ep,t,k _ _ (.inl rfl) e,c⟩
 | ins C dx fs =>
  obtain ⟨d,z,ne,e,mA,⟨od,es,ep,e2,c⟩,r⟩:=x
  exact ⟨ho _ d,z,ne,k _ _ (.inl rfl) e,mA,⟨od,es,ep,k _ _ (.inr d) e2,c⟩,r⟩
 | own y=>obtain ⟨ob,e⟩:=x;exact ⟨ob,k _ _ (.inl rfl) e⟩
 | xd fs=>obtain ⟨mA,⟨od,es,ep,e,c⟩,r⟩:=x;exact ⟨mA,⟨od,es,ep,k _ _ (.inl rfl) e,c⟩,r⟩
 | rng lo hi=>obtain ⟨t,u,v,e⟩:=x;exact ⟨t,u,v,k _ _ (.inl rfl) e⟩
 | frz ob u ih=>obtain ⟨e,q⟩:=x;exact ⟨k _ _ (.inl rfl) e,ih q⟩
 | tbl ps =>
  have e:h.get? a=some { cls:=.none,data:=.fields ps }:=x
  show h'.get? a=some { cls:=.none,data:=.fields ps }
  exact k a _ (.inl rfl) e
 | met f y =>
  have e:h.get? a=some (PySem.W.methodObj (.ref f) (.ref y)):=x
  show h'.get? a=some (PySem.W.methodObj (.ref f) (.ref y))
  exact k a _ (.inl rfl) e
 | ext φ=>obtain ⟨p,⟨o,e⟩,st⟩:=x;exact ⟨st _ _ p fun o q=>k _ _ (.inl rfl) q,⟨o,k _ _ (.inl rfl) e⟩,st⟩
theorem HOk.lt (x:HOk P w H h) (e:H a=some o):a < h.objs.size:=(x a o e).lt
theorem HOk.fresh (x:HOk P w H h) (e:h.objs.size<=a):H a=none:=by
 cases q:H a with
 | none=>rfl
 | some u=>exact absurd (qE (x.lt q) e) (Nat.lt_irrefl _)
theorem HOk.kept (x:HOk P w H h) (k:∀ b u,h.get? b=some u->h'.get? b=some u):HOk P w H h':=fun a o e =>
 (x a o e).stay (fun b u _ q=>k b u q) (fun _ q=>q) fun _ _ q=>q
theorem HOk.laid (x:HOk P w H h) (k:∀ b u,h.get? b=some u->h'.get? b=some u) (hp:h.objs.size<=a) (new:zcn P w (upd H a o) h' a o):HOk P w (upd H a o) h':=fun b u e=>by
 have hn:=x.fresh hp
 by_cases hb:b=a
 ·subst hb;rw [zav] at e;cases e;exact new
 ·rw [zap hb] at e
  exact (x b u e).stay (fun c v _ q=>k c v q) (fun c q=>by rw [zap (zan q hn)];exact q) fun c xs q=>by rw [zap (zan q hn)];exact q
end
def Rd (H:Hp) (a:Addr) (u:HO):Prop:=H a=some u\/∃ o,H a=some (.frz o u)
theorem Rd.ok {P:Program} {w:World} {H:Hp} {h:Heap} {a:Addr} {u:HO} (r:Rd H a u) (x:HOk P w H h):zcn P w H h a u:=by
 rcases r with r | ⟨o,r⟩
 ·exact x a u r
 ·obtain ⟨_,q⟩:=x a _ r
  exact q
def Mut:Option HO->Prop
 | some (.lst _)=>True
 | some (.dK _)=>True
 | some (.dT _)=>True
 | some (.set _ _)=>True
 | some (.ins _ _ _)=>True
 | some (.ext _)=>True
 | _=>False
section
variable {P:Program} {w:World} {H:Hp} {h h':Heap} {x e:Addr} {o':HO}
theorem HOk.write (ok:HOk P w H h) (mu:Mut (H x)) (he:e=x\/H e=some (.own x)) (k:∀ b u,b≠e->h.get? b=some u->h'.get? b=some u) (heo:∃ u,h'.get? e=some u)
  (new:zcn P w (upd H x o') h' x o'):HOk P w (upd H x o') h':=fun b u q=>by
 have nown:∀ c y,H c=some (.own y)->c≠x:=fun c y r z=>by subst z;rw [r] at mu;exact mu
 have ntup:∀ c xs,H c=some (.tup xs)->c≠x:=fun c xs r z=>by subst z;rw [r] at mu;exact mu
 by_cases hb:b=x
 ·subst hb;rw [zav] at q;cases q;exact new
 ·rw [zap hb] at q
  by_cases hbe:b=e
  ·have q':H b=some (.own x):=by
    rcases he with z | z
    ·exact absurd (hbe.trans z) hb
    ·rw [hbe];exact z
   rw [q] at q';cases q'
   obtain ⟨v,hv⟩:=heo
   exact ⟨v,by rw [hbe];exact hv⟩
  ·refine (ok b u q).stay (fun c v hc r=>k c v ?_ r) (fun c r=>by rw [zap (nown c b r)];exact r) fun c xs r=>by rw [zap (ntup c xs r)];exact r
   rcases hc with rfl | hc
   ·exact hbe
   ·rintro rfl
    rcases he with z | z
    ·exact nown c b hc z
    ·rw [hc] at z;cases z;exact hb rfl
end
structure Un (fs ex:List Addr) (H H':Hp) (h h':Heap):Prop where
 keep:∀ b o,h.get? b=some o->H b=none->b∉fs->b∉ex->h'.get? b=some o
 slot:∀ b o,h.get? b=some o->H b=none->b∈fs->b∉ex->∃ sl,h'.get? b=some { o with slots:=sl }
 free:∀ b o,h.get? b=some o->H b=none->b∉ex->H' b=none
 there:∀ b o,h.get? b=some o->b∉ex->∃ o',h'.get? b=some o'
 tups:∀ b xs,H b=some (.tup xs)->H' b=some (.tup xs)
 frzs:∀ b o u,H b=some (.frz o u)->H' b=some (.frz o u)
 tbls:∀ b ps,H b=some (.tbl ps)->∃ more,H' b=some (.tbl (ps++more))
section
variable {fs fs' ex ex':List Addr} {H H1 H2:Hp} {h h1 h2 h':Heap} {a x e:Addr} {o:HO}
theorem Un.any (u:Un fs ex H H1 h h1) {b:Addr} {ob:Obj} (q:h.get? b=some ob) (n:H b=none) (hx:b∉ex):∃ sl,h1.get? b=some { ob with slots:=sl }:=by
 by_cases hb:b∈fs
 ·exact u.slot b ob q n hb hx
 ·exact ⟨ob.slots,u.keep b ob q n hb hx⟩
theorem Un.kept (k:∀ b u,h.get? b=some u->h'.get? b=some u):Un fs ex H H h h' :=
 ⟨fun b ob q _ _ _=>k b ob q,fun b ob q _ _ _=>⟨ob.slots,k b ob q⟩,fun _ _ _ n _=>n,fun b ob q _=>⟨ob,k b ob q⟩,fun _ _ q=>q,fun _ _ _ q=>q,fun _ ps q=>⟨#[],by rw [q];simp⟩⟩
theorem Un.refl:Un fs ex H H h h:=Un.kept fun _ _ q=>q
theorem Un.laid (k:∀ b u,h.get? b=some u->h'.get? b=some u) (hp:h.objs.size<=a) (hn:H a=none):Un fs ex H (upd H a o) h h' where
 keep:=fun b u q _ _ _=>k b u q
 slot:=fun b u q _ _ _=>⟨u.slots,k b u q⟩
 free:=fun b u q n _=>by rw [zap (qB (qE (qv q) hp))];exact n
 there:=fun b u q _=>⟨u,k b u q⟩
 tups:=fun b xs q=>by rw [zap (zan q hn)];exact q
 frzs:=fun b u xs q=>by rw [zap (zan q hn)];exact q
 tbls:=fun b ps q=>⟨#[],by rw [zap (zan q hn),q];simp⟩
theorem Un.write (mu:Mut (H x)) (he:e=x\/H e=some (.own x)) (k:∀ b u,b≠e->h.get? b=some u->h'.get? b=some u) (heo:∃ u,h'.get? e=some u):Un fs ex H (upd H x o) h h':=by
 have hx:∀ b,H b=none->b≠x:=fun b n z=>by subst z;rw [n] at mu;exact mu
 have hb:∀ b,H b=none->b≠e:=fun b n z=>by
  subst z
  rcases he with r | r
  ·exact hx b n r
  ·rw [n] at r;cases r
 have hm:∀ b u,H b=some u->¬ Mut (some u)->b≠x:=fun b u q nm z=>by subst z;rw [q] at mu;exact nm mu
 refine ⟨fun b u q n _ _=>k b u (hb b n) q,fun b u q n _ _=>⟨u.slots,k b u (hb b n) q⟩,fun b u q n _=>by rw [zap (hx b n)];exact n,fun b u q _=>?_,
  fun b xs q=>by rw [zap (hm b _ q fun z=>z)];exact q,fun b u xs q=>by rw [zap (hm b _ q fun z=>z)];exact q,fun b ps q=>⟨#[],by rw [zap (hm b _ q fun z=>z),q];simp⟩⟩
 by_cases hbe:b=e
 ·subst hbe;exact heo
 ·exact ⟨u,k b u hbe q⟩
end
def trk (h:Heap) (H:Hp):List Addr:=(List.range h.objs.size).filter fun a=>(H a).isSome
def zoV (h:Heap) (H:Hp):Heap:=PySem.W.hideAll h (trk h H)
theorem znl (h:Heap) (H:Hp):(zoV h H).objs.size=h.objs.size:=PySem.W.hideAll_size _ _
theorem zoU {h:Heap} {H:Hp} {b:Addr} {o:Obj} (e:h.get? b=some o) (n:H b=none):(zoV h H).get? b=some o :=
 PySem.W.hideAll_get _ e fun hm=>by
  have q:(H b).isSome=true:=(List.mem_filter.mp hm).2
  rw [n] at q;simp at q
theorem zqU {h:Heap} {H:Hp} {b:Addr} {o:Obj} (e:(zoV h H).get? b=some o):h.get? b=some o/\H b=none:=by
 have e':h.get? b=some o:=PySem.W.of_hideAll (trk h H) e
 refine ⟨e',?_⟩
 cases q:H b with
 | none=>rfl
 | some x =>
  have hm:b∈trk h H:=List.mem_filter.mpr ⟨List.mem_range.mpr (qv e'),by simp [q]⟩
  have z:(zoV h H).get? b=none:=PySem.W.hideAll_none (trk h H) hm
  rw [z] at e;cases e
def zrW (g h:Heap) (L:Addr):List (Addr×Obj):=(List.range h.objs.size).filterMap fun a=>if a=L\/(g.get? a).isSome=true then none else (h.get? a).map fun o=>(a,o)
def zgL (g h:Heap) (L d:Addr):List (Addr×Obj):=(zrW g h L).filter fun p=>decide (p.1≠d)
end L2
namespace L2
open PySem PySem.Spec PyProof.Rows
structure Mod (K:PySem.W.Frag) (mg:Str->Option Value) (base:Heap):Prop where
 kin:K.In base
 glob:base.Ns mainGlobals mg
 blt:∃ mb,base.Ns builtinsNs mb/\∀ x:Str,x≠"__name__"->mb x=bootBuiltins x
 nolimit:base.NoLimit
structure Cx where
 prog:Program
 w:World
 K:PySem.W.Frag
 mg:Str->Option Value
 base:Heap
 A:Around
 N:List Str
 s₀:Shared
 H₀:Hp
 env:Env
 outer:List Env
 stack:List Env
 ex:List Addr
 fn:Str->Bool
 calm:Bool
 pn:List (Addr×Obj)
 xe:Value->Shared->Prop
def frs (l:List Env):List Addr:=l.filterMap (·.frame)
abbrev Cx.fs (X:Cx):List Addr:=frs X.outer
def Vis (sc:Scope) (x:Str):Prop:=sc.names.lookup x=some .local\/sc.names.lookup x=some .cell\/sc.names.lookup x=some .free
def Loc (sc:Scope) (x:Str):Prop:=sc.names.lookup x=some .local\/sc.names.lookup x=some .cell
def zvZ (env:Env) (h:Heap) (m:Str->Option Value) (x:Str) (u:Value):Prop :=
 (env.kindOf x=some .local/\m x=some u)\/((env.kindOf x=some .cell\/env.kindOf x=some .free)/\∃ c,env.cells.lookup x=some c/\h.IsCell c (some u))
structure Cx.Ok (X:Cx):Prop where
 mod:Mod X.K X.mg X.base
 kind:X.env.scope.kind=.function
 glob:X.env.globals=mainGlobals
 blt:X.env.builtins=builtinsNs
 above:X.s₀.heap.objs.size<=X.env.locals
 inj:∀ x y c,X.env.cells.lookup x=some c->X.env.cells.lookup y=some c->x=y
 has:∀ x,(X.env.kindOf x=some .cell\/X.env.kindOf x=some .free)->∃ c,X.env.cells.lookup x=some c
 cab:∀ x c,X.fn x=true->X.env.cells.lookup x=some c->X.s₀.heap.objs.size<=c
 hd:X.calm=true->X.A.handled=none
 frames:X.A.frames=some X.stack
 stk:X.stack=X.outer\/(X.stack=X.env::X.outer/\X.env.frame=some X.env.locals)
 exf:∀ b∈X.ex,b≠X.env.locals/\∀ x c,X.env.cells.lookup x=some c->c≠b
 bs:∀ b o,X.base.get? b=some o->X.s₀.heap.get? b=some o/\X.H₀ b=none
 bsz:X.base.objs.size<=X.s₀.heap.objs.size
 noex:∀ b o,X.base.get? b=some o->b∉X.ex
 exfs:∀ b∈X.ex,b∉X.fs
 funs:X.s₀.heap.FunFrames X.base X.outer
 frf:∀ b∈X.fs,X.H₀ b=none
structure Inv (X:Cx) (pins:List (Addr×Obj)) (σ:List (Option V)) (H:Hp) (s:Shared):Prop where
 ok:X.Ok
 os:s.os=X.s₀.os
 bare:AllBare s.gens
 base:Un X.fs X.ex X.H₀ H X.s₀.heap s.heap
 loc:∃ m,s.heap.Ns X.env.locals m/\∀ (i:Nat) (x:Str) (v:V),X.N[i]?=some x->σ[i]?=some (some v)->Vis X.env.scope x->∃ u,zca v u/\zvZ X.env s.heap m x u
 cell:∀ x c,X.env.cells.lookup x=some c->∃ v,s.heap.IsCell c v
 free:H X.env.locals=none
 freeC:∀ x c,X.env.cells.lookup x=some c->H c=none
 pin:∀ p∈X.pn++pins,s.heap.get? p.1=some p.2/\H p.1=none/\p.1≠X.env.locals/\p.1∉X.fs/\∀ v,p.2.data≠.cell v
 hok:HOk X.prog X.w H s.heap
 len:σ.length=X.N.length
section
variable {X:Cx} {pins:List (Addr×Obj)} {σ:List (Option V)} {H H':Hp} {s:Shared} {h':Heap}
theorem Cx.Ok.nofr (ok:X.Ok) {b:Addr} {o:Obj} (e:X.base.get? b=some o):b∉X.fs:=fun hb=>by
 have:=(ok.funs.mem hb).1
 rw [e] at this;cases this
theorem Inv.bs (I:Inv X pins σ H s):∀ b o,X.base.get? b=some o->s.heap.get? b=some o/\H b=none:=fun b o e =>
 ⟨I.base.keep b o (I.ok.bs b o e).1 (I.ok.bs b o e).2 (I.ok.nofr e) (I.ok.noex b o e),I.base.free b o (I.ok.bs b o e).1 (I.ok.bs b o e).2 (I.ok.noex b o e)⟩
theorem Inv.bk (I:Inv X pins σ H s):∀ b o,X.base.get? b=some o->s.heap.get? b=some o:=fun b o e=>(I.bs b o e).1
theorem Inv.mod (I:Inv X pins σ H s):Mod X.K X.mg X.base:=I.ok.mod
theorem Inv.kIn (I:Inv X pins σ H s):X.K.In s.heap:=I.ok.mod.kin.keeps I.bk
theorem Inv.lt (I:Inv X pins σ H s):X.env.locals < s.heap.objs.size:=let ⟨_,hn,_⟩:=I.loc;hn.lt
theorem Inv.sz (I:Inv X pins σ H s):X.s₀.heap.objs.size<=s.heap.objs.size:=qK I.ok.above (Nat.le_of_lt I.lt)
theorem Inv.nofs (I:Inv X pins σ H s) {a:Addr} (h:s.heap.objs.size<=a):a∉X.fs:=fun hb=>by
 obtain ⟨_,o,ho,_⟩:=I.ok.funs.mem hb
 exact absurd (qE (qv ho) (qK I.sz h)) (Nat.lt_irrefl _)
theorem Inv.cne (I:Inv X pins σ H s):∀ x c,X.env.cells.lookup x=some c->c≠X.env.locals:=fun x c e z=>by
 obtain ⟨v,o,ho,hd⟩:=I.cell x c e
 obtain ⟨m,⟨o',es,ep,ho',hd',_⟩,_⟩:=I.loc
 rw [z,ho'] at ho;cases ho;rw [hd'] at hd;cases hd
theorem Inv.funs (I:Inv X pins σ H s):s.heap.FunFrames X.base X.outer:=by
 have all:∀ (l:List Env),(∀ b∈frs l,b∈X.fs)->X.s₀.heap.FunFrames X.base l->s.heap.FunFrames X.base l:=by
  intro l
  induction l with
  | nil=>intro _ _;trivial
  | cons env r ih =>
   intro hs hl
   obtain ⟨hk,⟨L,o,hf,hn,ho,hd⟩,hr⟩:=hl
   have hL:L∈X.fs:=hs L (by unfold frs;rw [List.filterMap_cons,hf];exact qh)
   obtain ⟨sl,e⟩:=I.base.slot L o ho (I.ok.frf L hL) hL fun z=>I.ok.exfs L z hL
   exact ⟨hk,⟨L,_,hf,hn,e,hd⟩,ih (fun b hb=>hs b (by unfold frs;rw [List.filterMap_cons,hf];exact qi _ hb)) hr⟩
 exact all X.outer (fun _ hb=>hb) I.ok.funs
theorem Inv.stack (I:Inv X pins σ H s):s.heap.FunFrames X.base X.stack:=by
 rcases I.ok.stk with e | ⟨e,hf⟩
 ·rw [e];exact I.funs
 ·rw [e]
  obtain ⟨m,hn,_⟩:=I.loc
  refine .cons (by rw [I.ok.kind];decide) hf hn ?_ I.funs
  exact Heap.get?_none_of_le (qK I.ok.bsz I.ok.above)
theorem Inv.stkSub (I:Inv X pins σ H s):∀ b∈frs X.stack,b∈X.env.locals::X.fs:=fun b hb=>by
 rcases I.ok.stk with e | ⟨e,hf⟩
 ·rw [e] at hb;exact qi _ hb
 ·rw [e] at hb
  unfold frs at hb
  rw [List.filterMap_cons,hf] at hb
  exact hb
theorem Inv.stkFree (I:Inv X pins σ H s):∀ b∈frs X.stack,H b=none:=fun b hb=>by
 rcases List.mem_cons.mp (I.stkSub b hb) with e | hb
 ·rw [e];exact I.free
 ·obtain ⟨_,o,ho,_⟩:=I.ok.funs.mem hb
  exact I.base.free b o ho (I.ok.frf b hb) fun z=>I.ok.exfs b z hb
theorem Inv.step {g':Array GenState} {t':Nat} {d':Drawn} {ch:List Addr} (I:Inv X pins σ H s)
  (hch:∀ b∈ch,(b∈X.ex\/X.s₀.heap.objs.size<=b)/\b≠X.env.locals/\(∀ x c,X.env.cells.lookup x=some c->c≠b)/\∀ p∈X.pn++pins,p.1≠b)
  (keep:∀ b o,b≠X.env.locals->b∉X.fs->b∉ch->s.heap.get? b=some o->H b=none->h'.get? b=some o)
  (slot:∀ b o,b≠X.env.locals->b∈X.fs->b∉ch->s.heap.get? b=some o->H b=none->∃ sl,h'.get? b=some { o with slots:=sl }) (free:∀ b o,b∉ch->s.heap.get? b=some o->H b=none->H' b=none)
  (there:∀ b o,b∉ch->s.heap.get? b=some o->∃ o',h'.get? b=some o')
  (tups:∀ b xs,H b=some (.tup xs)->H' b=some (.tup xs)) (frzs:∀ b o u,H b=some (.frz o u)->H' b=some (.frz o u)) (tbls:∀ b ps,H b=some (.tbl ps)->∃ more,H' b=some (.tbl (ps++more)))
  (ns:∀ m,s.heap.Ns X.env.locals m->h'.Ns X.env.locals m) (hok:HOk X.prog X.w H' h') (hg:AllBare g') :
  Inv X pins σ H' { s with heap:=h',gens:=g',drawn:=d',toks:=t' }:=by
 have neL:∀ b o,X.s₀.heap.get? b=some o->b≠X.env.locals:=fun b o e=>qB (qE (qv e) I.ok.above)
 have neC:∀ b o,X.s₀.heap.get? b=some o->b∉X.ex->b∉ch:=fun b o e hx hb=>by
  rcases (hch b hb).1 with z | z
  ·exact hx z
  ·exact absurd (qE (qv e) z) (Nat.lt_irrefl _)
 have cellK:∀ x c,X.env.cells.lookup x=some c->∀ v,s.heap.IsCell c v->h'.IsCell c v:=fun x c e v ⟨o,ho,hd⟩=>by
  have nch:c∉ch:=fun z=>(hch c z).2.2.1 x c e rfl
  by_cases hc:c∈X.fs
  ·obtain ⟨sl,q⟩:=slot c o (I.cne x c e) hc nch ho (I.freeC x c e)
   exact ⟨_,q,hd⟩
  ·exact ⟨o,keep c o (I.cne x c e) hc nch ho (I.freeC x c e),hd⟩
 refine ⟨I.ok,I.os,hg,⟨fun b o e n hb hx=>?_,fun b o e n hb hx=>?_,fun b o e n hx=>?_,fun b o e hx=>?_,fun b xs e=>tups b xs (I.base.tups b xs e),fun b o xs e=>frzs b o xs (I.base.frzs b o xs e),fun b ps e=>?_⟩,?_,fun x c e=>?_,?_,fun x c e=>?_,fun p hp=>?_,hok,I.len⟩
 ·exact keep b o (neL b o e) hb (neC b o e hx) (I.base.keep b o e n hb hx) (I.base.free b o e n hx)
 ·obtain ⟨sl,e1⟩:=I.base.slot b o e n hb hx
  obtain ⟨sl',e2⟩:=slot b _ (neL b o e) hb (neC b o e hx) e1 (I.base.free b o e n hx)
  exact ⟨sl',e2⟩
 ·obtain ⟨o',e1⟩:=I.base.there b o e hx
  exact free b o' (neC b o e hx) e1 (I.base.free b o e n hx)
 ·obtain ⟨o',e1⟩:=I.base.there b o e hx
  exact there b o' (neC b o e hx) e1
 ·obtain ⟨m1,e1⟩:=I.base.tbls b ps e
  obtain ⟨m2,e2⟩:=tbls b _ e1
  exact ⟨m1++m2,by rw [e2,Array.append_assoc]⟩
 ·obtain ⟨m,hn,hl⟩:=I.loc
  refine ⟨m,ns m hn,fun i x v e1 e2 e3=>?_⟩
  obtain ⟨u,r,l⟩:=hl i x v e1 e2 e3
  refine ⟨u,r,?_⟩
  rcases l with l | ⟨k,c,e,z⟩
  ·exact .inl l
  ·exact .inr ⟨k,c,e,cellK x c e _ z⟩
 ·obtain ⟨v,z⟩:=I.cell x c e
  exact ⟨v,cellK x c e v z⟩
 ·obtain ⟨m,⟨o,_,_,ho,_⟩,_⟩:=I.loc
  exact free _ o (fun z=>(hch _ z).2.1 rfl) ho I.free
 ·obtain ⟨v,o,ho,hd⟩:=I.cell x c e
  exact free c o (fun z=>(hch c z).2.2.1 x c e rfl) ho (I.freeC x c e)
 ·obtain ⟨e,n,ne,nf,d⟩:=I.pin p hp
  have nch:p.1∉ch:=fun z=>(hch p.1 z).2.2.2 p hp rfl
  exact ⟨keep p.1 p.2 ne nf nch e n,free p.1 p.2 nch e n,ne,nf,d⟩
theorem Inv.un {t':Nat} (I:Inv X pins σ H s) (u:Un X.fs [] H H' s.heap h') (hok:HOk X.prog X.w H' h'):Inv X pins σ H' { s with heap:=h',toks:=t' }:=by
 obtain ⟨m,⟨o,es,ep,ho,r⟩,_⟩:=id I.loc
 obtain ⟨sl,hL⟩:=u.any ho I.free (by simp)
 exact I.step (g':=s.gens) (d':=s.drawn) (ch:=[]) (fun _ z=>nomatch z) (fun b o _ hb _ e n=>u.keep b o e n hb (by simp)) (fun b o _ hb _ e n=>u.slot b o e n hb (by simp)) (fun b o _ e n=>u.free b o e n (by simp)) (fun b o _ e=>u.there b o e (by simp)) u.tups u.frzs u.tbls (fun m' hm=>by
  obtain ⟨o',es',ep',ho',r'⟩:=hm
  rw [ho] at ho';cases ho'
  exact ⟨_,es',ep',hL,r'⟩) hok I.bare
theorem Inv.call {g':Array GenState} {t':Nat} {d':Drawn} {ch:List Addr} (I:Inv X pins σ H s) (u:Un (frs X.stack) ch H H' s.heap h') (hok:HOk X.prog X.w H' h') (hg:AllBare g')
  (hch:∀ b∈ch,(b∈X.ex\/X.s₀.heap.objs.size<=b)/\b≠X.env.locals/\(∀ x c,X.env.cells.lookup x=some c->c≠b)/\∀ p∈X.pn++pins,p.1≠b) :
  Inv X pins σ H' { s with heap:=h',gens:=g',drawn:=d',toks:=t' }:=by
 obtain ⟨m,⟨o,es,ep,ho,r⟩,_⟩:=id I.loc
 obtain ⟨sl,hL⟩:=u.any ho I.free fun z=>(hch _ z).2.1 rfl
 exact I.step (ch:=ch) hch (fun b o hL hb hc e n=>u.keep b o e n (fun z=>(List.mem_cons.mp (I.stkSub b z)).elim hL hb) hc) (fun b o _ _ hc e n=>u.any e n hc) (fun b o hc e n=>u.free b o e n hc) (fun b o hc e=>u.there b o e hc) u.tups u.frzs u.tbls (fun m' hm=>by
  obtain ⟨o',es',ep',ho',r'⟩:=hm
  rw [ho] at ho';cases ho'
  exact ⟨_,es',ep',hL,r'⟩) hok hg
theorem Inv.turned {t':Nat} {it:Addr} (I:Inv X pins σ H s) (k:∀ b o,b≠it->s.heap.get? b=some o->h'.get? b=some o) (hn:H it=none) (hL:it≠X.env.locals)
  (h1:it∈X.ex\/X.s₀.heap.objs.size<=it) (h2:∀ x c,X.env.cells.lookup x=some c->c≠it) (h3:∀ p∈X.pn++pins,p.1≠it):Inv X pins σ H { s with heap:=h',toks:=t' }:=by
 have nit:∀ b u,H b=some u->b≠it:=fun b u e z=>by rw [z,hn] at e;cases e
 refine I.step (g':=s.gens) (d':=s.drawn) (ch:=[it]) (fun b hb=>?_) (fun b o _ _ hc e _=>k b o (fun z=>hc (by simp [z])) e) (fun b o _ _ hc e _=>⟨o.slots,k b o (fun z=>hc (by simp [z])) e⟩) (fun _ _ _ _ n=>n)
  (fun b o hc e=>⟨o,k b o (fun z=>hc (by simp [z])) e⟩) (fun _ _ e=>e) (fun _ _ _ e=>e) (fun b ps e=>⟨#[],by rw [e];simp⟩) (fun m hm=>?_) (fun b u e=>?_) I.bare
 ·have e:b=it:=by simpa using hb
  subst e
  exact ⟨h1,hL,h2,h3⟩
 ·obtain ⟨o,es,ep,ho,r⟩:=hm
  exact ⟨o,es,ep,k _ o (Ne.symm hL) ho,r⟩
 ·refine (I.hok b u e).stay (fun c v hc q=>k c v ?_ q) (fun _ q=>q) fun _ _ q=>q
  rcases hc with z | z
  ·rw [z];exact nit b u e
  ·exact nit c _ z
theorem Inv.tok (I:Inv X pins σ H s) (t:Nat):Inv X pins σ H { s with toks:=t }:=I.un (h':=s.heap) (t':=t) Un.refl I.hok
theorem Inv.kept {t':Nat} (I:Inv X pins σ H s) (k:∀ b u,s.heap.get? b=some u->h'.get? b=some u):Inv X pins σ H { s with heap:=h',toks:=t' }:=I.un (Un.kept k) (I.hok.kept k)
theorem Inv.laid {a:Addr} {o:HO} {t':Nat} (I:Inv X pins σ H s) (k:∀ b u,s.heap.get? b=some u->h'.get? b=some u) (hp:s.heap.objs.size<=a) (new:zcn X.prog X.w (upd H a o) h' a o) :
  Inv X pins σ (upd H a o) { s with heap:=h',toks:=t' }:=I.un (Un.laid k hp (I.hok.fresh hp)) (I.hok.laid k hp new)
theorem Inv.write {x e:Addr} {o:HO} {t':Nat} (I:Inv X pins σ H s) (mu:Mut (H x)) (he:e=x\/H e=some (.own x)) (k:∀ b u,b≠e->s.heap.get? b=some u->h'.get? b=some u) (heo:∃ u,h'.get? e=some u)
  (new:zcn X.prog X.w (upd H x o) h' x o):Inv X pins σ (upd H x o) { s with heap:=h',toks:=t' }:=I.un (Un.write mu he k heo) (I.hok.write mu he k heo new)
theorem Inv.pins_of {pins':List (Addr×Obj)} (I:Inv X pins σ H s) (h:∀ p∈pins',s.heap.get? p.1=some p.2/\H p.1=none/\p.1≠X.env.locals/\p.1∉X.fs/\∀ v,p.2.data≠.cell v):Inv X pins' σ H s :=
 ⟨I.ok,I.os,I.bare,I.base,I.loc,I.cell,I.free,I.freeC,fun p hp=>(List.mem_append.mp hp).elim (fun z=>I.pin p (List.mem_append_left _ z)) (h p),I.hok,I.len⟩
theorem zk8 {N:List Str} (hN:N.Nodup) {i j:Nat} {x:Str} (a:N[i]?=some x) (b:N[j]?=some x):i=j:=by
 obtain ⟨h1,e1⟩:=List.getElem?_eq_some_iff.mp a
 obtain ⟨h2,e2⟩:=List.getElem?_eq_some_iff.mp b
 exact (List.getElem_inj hN).mp (e1.trans e2.symm)
theorem zjj {M:Model} {A:Around} {E:Value->Shared->Prop} {i:Nat} {x:Str} {v:V} {u:Value} {Q:Unit->Shared->Prop} (I:Inv X pins σ H s) (hN:X.N.Nodup) (hi:X.N[i]?=some x) (hx:Loc X.env.scope x) (r:zca v u)
  (h:∀ s',Inv X pins (σ.set i (some v)) H s'->(∃ a,Heap.SameBut a s.heap s'.heap/\(a=X.env.locals\/X.env.cells.lookup x=some a))->Q () s') (hf:X.fn x=true\/X.env.scope.names.lookup x=some .local:=by first | exact .inl rfl | exact .inr rfl | assumption):wpAny M A (storeName X.env x u) Q E s:=by
 obtain ⟨m,hn,hl⟩:=id I.loc
 have hcls:(X.env.scope.kind==.class || (X.env.scope.kind==.module && X.env.locals != X.env.globals))=false:=by rw [I.ok.kind];rfl
 have hiσ:i < σ.length:=by rw [I.len];exact (List.getElem?_eq_some_iff.mp hi).1
 have cne:=I.cne
 have tracked:∀ {a:Addr} {h':Heap},(∃ o,s.heap.get? a=some o/\H a=none)->Heap.SameBut a s.heap h'->HOk X.prog X.w H h':=fun {a h'} ha hs b ob e=>by
  obtain ⟨_,_,hfree⟩:=ha
  refine (I.hok b ob e).stay (fun c w' hc q=>(hs.2 c ?_).trans q) (fun _ q=>q) fun _ _ q=>q
  rintro rfl
  rcases hc with rfl | hc
  ·rw [hfree] at e;cases e
  ·rw [hfree] at hc;cases hc
 rcases hx with hk | hk
 ·refine wpAny_storeName_local hk hn (fun h' hn' hs=>?_) hcls
  obtain ⟨oL,_,_,hoL,_⟩:=id hn
  refine h _ ⟨I.ok,I.os,I.bare,⟨fun b o e n hb hx=>?_,fun b o e n hb hx=>?_,I.base.free,fun b o e hx=>?_,I.base.tups,I.base.frzs,I.base.tbls⟩,⟨_,hn',fun j y v' e1 e2 e3=>?_⟩,fun y c e=>?_,I.free,I.freeC,fun p hp=>?_,tracked ⟨oL,hoL,I.free⟩ hs,by simpa using I.len⟩ ⟨_,hs,.inl rfl⟩
  ·exact (hs.2 b (qB (qE (qv e) I.ok.above))).trans (I.base.keep b o e n hb hx)
  ·obtain ⟨sl,e1⟩:=I.base.slot b o e n hb hx
   exact ⟨sl,(hs.2 b (qB (qE (qv e) I.ok.above))).trans e1⟩
  ·obtain ⟨o',e1⟩:=I.base.there b o e hx
   exact ⟨o',(hs.2 b (qB (qE (qv e) I.ok.above))).trans e1⟩
  ·by_cases hj:j=i
   ·subst hj
    rw [hi] at e1;cases e1
    rw [List.getElem?_set_self hiσ] at e2
    cases e2
    exact ⟨u,r,.inl ⟨hk,by simp⟩⟩
   ·rw [List.getElem?_set_ne (Ne.symm hj)] at e2
    obtain ⟨u',r',q⟩:=hl j y v' e1 e2 e3
    refine ⟨u',r',?_⟩
    rcases q with ⟨k,e⟩ | ⟨k,c,e,z⟩
    ·refine .inl ⟨k,?_⟩
     have:y≠x:=fun e=>hj (zk8 hN e1 (e▸hi))
     simp [this,e]
    ·exact .inr ⟨k,c,e,z.sameBut hs (cne y c e)⟩
  ·obtain ⟨w',z⟩:=I.cell y c e
   exact ⟨w',z.sameBut hs (cne y c e)⟩
  ·obtain ⟨e,n,ne,nf,d⟩:=I.pin p hp
   exact ⟨(hs.2 p.1 ne).trans e,n,ne,nf,d⟩
 ·have hfn:X.fn x=true:=by
   rcases hf with z | z
   ·exact z
   ·rw [z] at hk;cases hk
  obtain ⟨c,hc⟩:=I.ok.has x (.inl hk)
  obtain ⟨w',z⟩:=I.cell x c hc
  refine wpAny_storeName_cell I.ok.kind hk hc z (fun h' hc' hs=>?_)
  obtain ⟨oc,hoc,hocd⟩:=id z
  refine h { s with heap:=h' } ⟨I.ok,I.os,I.bare,⟨fun b o e n hb hx=>?_,fun b o e n hb hx=>?_,I.base.free,fun b o e hx=>?_,I.base.tups,I.base.frzs,I.base.tbls⟩,⟨m,hn.sameBut hs (Ne.symm (cne x c hc)),fun j y v' e1 e2 e3=>?_⟩,fun y c' e=>?_,I.free,I.freeC,fun p hp=>?_,tracked ⟨oc,hoc,I.freeC x c hc⟩ hs,by simpa using I.len⟩ ⟨c,hs,.inr hc⟩
  ·exact (hs.2 b (qB (qE (qv e) (I.ok.cab x c hfn hc)))).trans (I.base.keep b o e n hb hx)
  ·obtain ⟨sl,e1⟩:=I.base.slot b o e n hb hx
   exact ⟨sl,(hs.2 b (qB (qE (qv e) (I.ok.cab x c hfn hc)))).trans e1⟩
  ·obtain ⟨o',e1⟩:=I.base.there b o e hx
   exact ⟨o',(hs.2 b (qB (qE (qv e) (I.ok.cab x c hfn hc)))).trans e1⟩
  ·by_cases hj:j=i
   ·subst hj
    rw [hi] at e1;cases e1
    rw [List.getElem?_set_self hiσ] at e2
    cases e2
    exact ⟨u,r,.inr ⟨.inl hk,c,hc,hc'⟩⟩
   ·rw [List.getElem?_set_ne (Ne.symm hj)] at e2
    obtain ⟨u',r',q⟩:=hl j y v' e1 e2 e3
    refine ⟨u',r',?_⟩
    rcases q with q | ⟨k,c',e,z'⟩
    ·exact .inl q
    ·refine .inr ⟨k,c',e,z'.sameBut hs ?_⟩
     rintro rfl
     exact hj (zk8 hN e1 (I.ok.inj _ _ _ e hc▸hi))
  ·by_cases hcc:c'=c
   ·subst hcc;exact ⟨_,hc'⟩
   ·obtain ⟨w2,z2⟩:=I.cell y c' e
    exact ⟨w2,z2.sameBut hs hcc⟩
  ·obtain ⟨e,n,ne,nf,d⟩:=I.pin p hp
   refine ⟨(hs.2 p.1 ?_).trans e,n,ne,nf,d⟩
   intro q
   rw [q,hoc] at e
   have q':oc=p.2:=qG e
   exact d w' (by rw [← q'];exact hocd)
theorem zkZ {M:Model} {A:Around} {E:Value->Shared->Prop} {i:Nat} {x:Str} {v:V} {u:Value} {Q:Unit->Shared->Prop} (I:Inv X pins σ H s) (hN:X.N.Nodup) (hi:X.N[i]?=some x) (hx:Loc X.env.scope x) (r:zca v u)
  (h:∀ s',Inv X pins (σ.set i (some v)) H s'->Q () s') (hf:X.fn x=true\/X.env.scope.names.lookup x=some .local:=by first | exact .inl rfl | exact .inr rfl | assumption):wpAny M A (storeName X.env x u) Q E s :=
 zjj I hN hi hx r (fun s' I' _=>h s' I') hf
theorem Inv.call' {s':Shared} {ch:List Addr} (I:Inv X pins σ H s) (ho:s'.os=s.os) (u:Un (frs X.stack) ch H H' s.heap s'.heap) (hok:HOk X.prog X.w H' s'.heap) (hg:AllBare s'.gens)
  (hch:∀ b∈ch,(b∈X.ex\/X.s₀.heap.objs.size<=b)/\b≠X.env.locals/\(∀ x c,X.env.cells.lookup x=some c->c≠b)/\∀ p∈X.pn++pins,p.1≠b):Inv X pins σ H' s':=by
 obtain ⟨h',g',d',t',o'⟩:=s'
 have e:o'=s.os:=ho
 subst e
 exact I.call (g':=g') (t':=t') (d':=d') u hok hg hch
end
abbrev XK:=Value->Option Addr->Hp->Prop
abbrev St:=List (Option V)
abbrev VK:=V->Hp->Prop
abbrev TE:=St->Hp->VK->Prop
abbrev TT:=St->Hp->(Bool->Hp->Prop)->Prop
abbrev TA:=St->Hp->(List V->Hp->Prop)->Prop
structure Ends where
 nx:St->Hp->Prop
 rt:VK
 bk:St->Hp->Prop:=fun _ _=>False
 ct:St->Hp->Prop:=fun _ _=>False
abbrev TS:=Ends->St->Hp->Prop
def EP (X:Cx) (pins:List (Addr×Obj)) (σ:St) (Q:VK) (u:Value) (s':Shared):Prop:=∃ v H',Inv X pins σ H' s'/\zca v u/\Q v H'
def TP (X:Cx) (pins:List (Addr×Obj)) (σ:St) (Q:Bool->Hp->Prop) (b:Bool) (s':Shared):Prop:=∃ H',Inv X pins σ H' s'/\Q b H'
def AP (X:Cx) (pins:List (Addr×Obj)) (σ:St) (Q:List V->Hp->Prop) (us:List Value) (s':Shared):Prop:=∃ vs H',Inv X pins σ H' s'/\zbS vs us/\Q vs H'
def SP (X:Cx) (pins:List (Addr×Obj)) (D:Ends) (f:Flow) (s':Shared):Prop :=
 match f with
 | .next=>∃ σ' H',Inv X pins σ' H' s'/\D.nx σ' H'
 | .brk=>∃ σ' H',Inv X pins σ' H' s'/\D.bk σ' H'
 | .cont=>∃ σ' H',Inv X pins σ' H' s'/\D.ct σ' H'
 | .ret u=>∃ v σ' H',Inv X pins σ' H' s'/\zca v u/\D.rt v H'
def PE (X:Cx) (e:Expr) (t:TE):Prop :=
 ∀ (pins:List (Addr×Obj)) (s:Shared) (σ:St) (H:Hp) (Q:VK),Inv X pins σ H s->t σ H Q->wpAny (model X.prog X.w) X.A (eval e X.env) (EP X pins σ Q) X.xe s
def PT (X:Cx) (e:Expr) (t:TT):Prop :=
 ∀ (pins:List (Addr×Obj)) (s:Shared) (σ:St) (H:Hp) (Q:Bool->Hp->Prop),Inv X pins σ H s->t σ H Q->wpAny (model X.prog X.w) X.A (isTrue e X.env (eval e X.env)) (TP X pins σ Q) X.xe s
def PW (X:Cx) (e:Expr) (t:TT):Prop :=
 ∀ (whole:Sem Value) (pins:List (Addr×Obj)) (s:Shared) (σ:St) (H:Hp) (Q:Bool->Hp->Prop),Inv X pins σ H s->t σ H Q->wpAny (model X.prog X.w) X.A (isTrue e X.env whole) (TP X pins σ Q) X.xe s
theorem PW.pt {X:Cx} {e:Expr} {t:TT} (h:PW X e t):PT X e t:=h _
def PA (X:Cx) (es:List Expr) (t:TA):Prop :=
 ∀ (pos:Pos) (pins:List (Addr×Obj)) (s:Shared) (σ:St) (H:Hp) (Q:List V->Hp->Prop),Inv X pins σ H s->t σ H Q->wpAny (model X.prog X.w) X.A (spliced (backTo pos (starEach es X.env))) (AP X pins σ Q) X.xe s
def PS (X:Cx) (st:Stmt) (t:TS):Prop :=
 ∀ (pins:List (Addr×Obj)) (s:Shared) (σ:St) (H:Hp) (D:Ends),Inv X pins σ H s->t D σ H->wpAny (model X.prog X.w) X.A (exec st X.env) (SP X pins D) X.xe s
def PSs (X:Cx) (st:List Stmt) (t:TS):Prop :=
 ∀ (pins:List (Addr×Obj)) (s:Shared) (σ:St) (H:Hp) (D:Ends),Inv X pins σ H s->t D σ H->wpAny (model X.prog X.w) X.A (execs st X.env) (SP X pins D) X.xe s
theorem thn {α:Type} {t:Sem α} {Q Q':α->Shared->Prop} {M:Model} {A:Around} {E:Value->Shared->Prop} {s:Shared} (h:wpAny M A t Q E s) (hQ:∀ a s,Q a s->Q' a s):wpAny M A t Q' E s:=wpAny_mono h hQ fun _ _ x=>x
end L2
namespace L2
open PySem PySem.Spec PyProof.Rows
section
variable {X:Cx}
theorem bin {a b:Expr} {ta tb:TE} (ha:PE X a ta) (hb:PE X b tb) {pins:List (Addr×Obj)} {s:Shared} {σ:St} {H:Hp} {R:V->V->Hp->Prop} (I:Inv X pins σ H s) (h:ta σ H fun x H1=>tb σ H1 fun y H2=>R x y H2)
  {α:Type} {Q:α->Shared->Prop} {f:Value->Value->Sem α}
  (hf:∀ v u s2 x y H2,Inv X pins σ H2 s2->zca x v->zca y u->R x y H2->wpAny (model X.prog X.w) X.A (f v u) Q X.xe s2) :
  wpAny (model X.prog X.w) X.A (eval a X.env) (fun v s₁=>wpAny (model X.prog X.w) X.A (eval b X.env) (fun u s₂=>wpAny (model X.prog X.w) X.A (f v u) Q X.xe s₂) X.xe s₁) X.xe s:=by
 refine thn (ha pins s σ H _ I h) fun v s1 ⟨x,H1,I1,r1,q1⟩=>?_
 refine thn (hb pins s1 σ H1 _ I1 q1) fun u s2 ⟨y,H2,I2,r2,q2⟩=>?_
 exact hf v u s2 x y H2 I2 r1 r2 q2
def zu3 (i:Nat):TE:=fun σ H Q=>∃ v,σ[i]?=some (some v)/\Q v H
def tC (v:V):TE:=fun _ H Q=>Q v H
theorem zd6 {i:Nat} {x:Str} {pos:Pos} (hN:X.N[i]?=some x) (hv:Vis X.env.scope x) (hd:(x==("__debug__":Str))=false:=by decide) (hcd:(x==("__classdict__":Str))=false:=by decide):PE X (.Name x pos) (zu3 i):=by
 intro pins s σ H Q I h
 obtain ⟨v,e,h⟩:=h
 obtain ⟨m,hn,hl⟩:=I.loc
 obtain ⟨u,r,l⟩:=hl i x v hN e hv
 have fin:EP X pins σ Q u s:=⟨v,H,I,r,h⟩
 rcases l with ⟨hk,hm⟩ | ⟨hk,c,hc,hcell⟩
 ·exact wpAny_Name (wpAny_loadName_local I.ok.kind hk hn hm fin) hd
 ·rcases hk with hk | hk
  ·exact wpAny_Name (wpAny_loadName_cell I.ok.kind hk hc hcell fin) hd
  ·exact wpAny_Name (wpAny_loadName_free I.ok.kind hk hc hcell fin hcd) hd
theorem zmG {i j pos}:PE X (.Constant (.int i) j pos) (tC (.int i)):=fun _ _ _ H _ I h=>wpAny_Constant_int ⟨.int i,H,I.tok _,⟨_,rfl⟩,h⟩
theorem zur {b j pos}:PE X (.Constant (.bool b) j pos) (tC (.bl b)):=fun _ _ _ H _ I h=>Constant_bool ⟨.bl b,H,I,rfl,h⟩
theorem zsQ {j pos}:PE X (.Constant .none j pos) (tC .non):=fun _ _ _ H _ I h=>Constant_none ⟨.non,H,I,rfl,h⟩
theorem zsN {x j pos}:PE X (.Constant (.str x) j pos) (tC (.str x)):=fun _ _ _ H _ I h=>Calls.Constant_str ⟨.str x,H,I.tok _,⟨_,rfl⟩,h⟩
def Gl (X:Cx) (x:Str):Prop:=X.env.kindOf x=some .globalImplicit
theorem zkq {E:Value->Shared->Prop} {pins:List (Addr×Obj)} {s:Shared} {σ:St} {H:Hp} {x:Str} {u:Value} {pos:Pos} {Q:Value->Shared->Prop} (I:Inv X pins σ H s) (hg:Gl X x) (hm:X.mg x=some u) (h:Q u s)
  (hd:(x==("__debug__":Str))=false:=by decide):wpAny (model X.prog X.w) X.A (eval (.Name x pos) X.env) Q E s :=
 Calls.Name_function_global I.ok.kind hg (Calls.loadGlobal_global (by rw [I.ok.glob];exact I.mod.glob.keeps I.bk) hm h) hd
theorem zif {E:Value->Shared->Prop} {pins:List (Addr×Obj)} {s:Shared} {σ:St} {H:Hp} {x:Str} {u:Value} {pos:Pos} {Q:Value->Shared->Prop} (I:Inv X pins σ H s) (hg:Gl X x) (hm:X.mg x=none) (hv:bootBuiltins x=some u) (h:Q u s)
  (hn:x≠"__name__":=by decide) (hd:(x==("__debug__":Str))=false:=by decide):wpAny (model X.prog X.w) X.A (eval (.Name x pos) X.env) Q E s:=by
 obtain ⟨mb,h1,h2⟩:=I.mod.blt
 exact Calls.Name_function_global I.ok.kind hg (Calls.loadGlobal_builtin (by rw [I.ok.glob];exact I.mod.glob.keeps I.bk) hm (by rw [I.ok.blt];exact h1.keeps I.bk) ((h2 x hn).trans hv) h) hd
theorem zqJ {x:Str} {v:V} {u:Value} {pos:Pos} (hg:Gl X x) (hm:X.mg x=some u) (r:zca v u) (hd:(x==("__debug__":Str))=false:=by decide):PE X (.Name x pos) (tC v) :=
 fun _ _ _ H _ I h=>zkq I hg hm ⟨v,H,I,r,h⟩ hd
theorem zqN {x:Str} {v:V} {u:Value} {pos:Pos} (hg:Gl X x) (hm:X.mg x=none) (hv:bootBuiltins x=some u) (r:zca v u) (hn:x≠"__name__":=by decide) (hd:(x==("__debug__":Str))=false:=by decide):PE X (.Name x pos) (tC v) :=
 fun _ _ _ H _ I h=>zif I hg hm hv ⟨v,H,I,r,h⟩ hn hd
variable {a b:Expr} {ta tb:TE} {pos:Pos}
def PC (X:Cx) (op:CmpOp) (a b:Expr) (t:TE):Prop :=
 ∀ (pins:List (Addr×Obj)) (s:Shared) (σ:St) (H:Hp) (Q:VK),Inv X pins σ H s->t σ H Q ->
  wpAny (model X.prog X.w) X.A (eval a X.env) (fun v s₁=>wpAny (model X.prog X.w) X.A (eval b X.env) (fun u s₂=>wpAny (model X.prog X.w) X.A (compareOp op v u) (EP X pins σ Q) X.xe s₂) X.xe s₁) X.xe s
theorem zoF (b:Expr) {op:CmpOp} (h:op≠.In) (h2:op≠.NotIn):behindInMarks op b=false:=by
 have e1:(op==CmpOp.In)=false:=by cases op <;> first | rfl | exact absurd rfl h
 have e2:(op==CmpOp.NotIn)=false:=by cases op <;> first | rfl | exact absurd rfl h2
 cases b <;> simp [behindInMarks,e1,e2]
def tB (t:TE):TT:=fun σ H Q=>t σ H fun x H1=>∃ c,x=.bl c/\Q c H1
theorem zva {op:CmpOp} {t:TE} (h:PC X op a b t) (h1:behindInMarks op b=false:=by first | exact zoF _ (by decide) (by decide) | rfl):PT X (.Compare a [op] [b] pos) (tB t):=by
 intro pins s σ H Q I hw
 refine wpAny_isTrue_Compare1 (thn (h pins s σ H _ I hw) fun v s1 h1=>thn h1 fun u s2 h2=>thn h2 fun c s3 ⟨x,H1,I1,r1,q1⟩=>?_) h1
 obtain ⟨d,rfl,q⟩:=q1
 cases r1
 exact wpAny_truthy_bool ⟨H1,I1,q⟩
theorem zsE {e:Expr} {t:TE} (h:PE X e t) (he:∀ whole,isTrue e X.env whole=(do let v ← whole;standAt e.pos;holding [v] (truthy v)):=by intro _;rfl):PT X e (tB t):=by
 intro pins s σ H Q I hw
 refine isTrue_plain (thn (h pins s σ H _ I hw) fun v s1 ⟨x,H1,I1,r1,q1⟩=>?_) (he _)
 obtain ⟨d,rfl,q⟩:=q1
 cases r1
 exact wpAny_truthy_bool ⟨H1,I1,q⟩
variable {tA tB':TT} {zgL:List Expr}
def zvB (t u:TT):TT:=fun σ H Q=>t σ H fun c H1=>if c=true then u σ H1 Q else Q false H1
def tOr (t u:TT):TT:=fun σ H Q=>t σ H fun c H1=>if c=true then Q true H1 else u σ H1 Q
def zvv (t:TT):TT:=fun σ H Q=>t σ H fun c H1=>Q (!c) H1
theorem zqt (ha:PT X a tA):PW X (.BoolOp .And [a] pos) tA:=by
 intro wh pins s σ H Q I h
 refine isTrue_and (thn (ha pins s σ H Q I h) fun c s1 e=>?_)
 cases c with
 | true=>exact isTrue_and_nil e
 | false=>exact e
theorem zsC (ha:PT X a tA):PW X (.BoolOp .Or [a] pos) tA:=by
 intro wh pins s σ H Q I h
 refine isTrue_or (thn (ha pins s σ H Q I h) fun c s1 e=>?_)
 cases c with
 | false=>exact isTrue_or_nil e
 | true=>exact e
theorem zsD (ha:PT X a tA) (hb:PW X (.BoolOp .And (b::zgL) pos) tB'):PW X (.BoolOp .And (a::b::zgL) pos) (zvB tA tB'):=by
 intro wh pins s σ H Q I h
 refine isTrue_and (thn (ha pins s σ H _ I h) fun c s1 ⟨H1,I1,q1⟩=>?_)
 cases c with
 | true=>exact hb wh pins s1 σ H1 Q I1 q1
 | false=>exact ⟨H1,I1,q1⟩
theorem zuk (ha:PT X a tA) (hb:PW X (.BoolOp .Or (b::zgL) pos) tB'):PW X (.BoolOp .Or (a::b::zgL) pos) (tOr tA tB'):=by
 intro wh pins s σ H Q I h
 refine isTrue_or (thn (ha pins s σ H _ I h) fun c s1 ⟨H1,I1,q1⟩=>?_)
 cases c with
 | true=>exact ⟨H1,I1,q1⟩
 | false=>exact hb wh pins s1 σ H1 Q I1 q1
theorem zsF (ha:PT X a tA):PT X (.UnaryOp .Not a pos) (zvv tA):=by
 intro pins s σ H Q I h
 exact isTrue_not (ha pins s σ H (fun c H1=>Q (!c) H1) I h)
def zud (ta tb:TE):TE:=fun σ H Q=>ta σ H fun x H1=>∃ c,x=.bl c/\if c=true then tb σ H1 Q else Q (.bl false) H1
def zt6 (ta:TE):TE:=fun σ H Q=>ta σ H fun x H1=>∃ c,x=.bl c/\Q (.bl (!c)) H1
theorem zsO {op} {t:TE} (h:PE X a t):PE X (.BoolOp op [a] pos) t:=fun pins s σ H Q I hw=>BoolOp_one (h pins s σ H Q I hw)
theorem zsS (ha:PE X a ta) (hb:PE X (.BoolOp .And (b::zgL) pos) tb):PE X (.BoolOp .And (a::b::zgL) pos) (zud ta tb):=by
 intro pins s σ H Q I h
 refine BoolOp_and (thn (ha pins s σ H _ I h) fun v s1 ⟨x,H1,I1,r1,q1⟩=>?_)
 obtain ⟨c,rfl,q1⟩:=q1
 cases r1
 refine wpAny_truthy_bool ?_
 cases c with
 | true=>exact hb pins s1 σ H1 Q I1 q1
 | false=>exact ⟨.bl false,H1,I1,rfl,q1⟩
theorem zsP (ha:PE X a ta):PE X (.UnaryOp .Not a pos) (zt6 ta):=by
 intro pins s σ H Q I h
 refine UnaryOp_ (thn (ha pins s σ H _ I h) fun v s1 ⟨x,H1,I1,r1,q1⟩=>?_)
 obtain ⟨c,rfl,q1⟩:=q1
 cases r1
 exact not_of (wpAny_truthy_bool ⟨.bl (!c),H1,I1,rfl,q1⟩)
end
end L2
namespace L2
open PySem PySem.Spec PyProof.Rows
def SqL (K:PySem.W.Frag) (H:Hp) (a:Addr) (xs:List V):Prop :=
 Rd H a (.lst xs) \/
  ∃ (o:Obj) (its:Array Value) (n:Nat),K.lookup a=some o/\o.cls=.type "list"/\o.dict=none/\o.data=.seq its n/\its.size<=sizeLine/\zbS xs its.toList
def SqT (K:PySem.W.Frag) (H:Hp) (a:Addr) (xs:List V):Prop :=
 Rd H a (.tup xs) \/
  ∃ (o:Obj) (its:Array Value) (n:Nat),K.lookup a=some o/\o.cls=.type "tuple"/\o.data=.seq its n/\its.size<=sizeLine/\zbS xs its.toList
def zvV:Value->Option V
 | .none=>some .non
 | .bool b=>some (.bl b)
 | .int i _=>some (.int i)
 | .str x _=>some (.str x)
 | .bytes b _=>some (.byt b)
 | .float b _=>some (.flt b)
 | .ref a=>some (.ref a)
 | .type n=>some (.ty n)
 | _=>none
theorem zca.abs {x:V} {u:Value} (r:zca x u):zvV u=some x:=by
 cases x with
 | non=>cases r;rfl
 | bl _=>cases r;rfl
 | int _=>obtain ⟨t,rfl⟩:=r;rfl
 | str _=>obtain ⟨t,rfl⟩:=r;rfl
 | byt _=>obtain ⟨t,rfl⟩:=r;rfl
 | flt _=>obtain ⟨t,rfl⟩:=r;rfl
 | ref _=>cases r;rfl
 | ty _=>cases r;rfl
theorem zca.inj {x y:V} {u:Value} (r:zca x u) (q:zca y u):x=y:=qG (r.abs.symm.trans q.abs)
theorem zbS.inj:∀ {xs ys:List V} {us:List Value},zbS xs us->zbS ys us->xs=ys
 | _,_,_,.nil,.nil=>rfl
 | _,_,_,.cons r t,.cons r' t'=>by rw [r.inj r',zbS.inj t t']
section
variable {X:Cx} {pins:List (Addr×Obj)} {σ:St} {H:Hp} {s:Shared} {a:Addr} {xs ys:List V}
theorem Inv.list (I:Inv X pins σ H s) (h:SqL X.K H a xs):∃ its:List Value,zbS xs its/\PlainL s.heap a its.toArray/\xs.length<=sizeLine:=by
 rcases h with h | ⟨o,its,n,hk,hc,hd,hs,hz,r⟩
 ·obtain ⟨z,its,n,r,e⟩:=h.ok I.hok
  exact ⟨its,r,⟨_,n,e,rfl,rfl,rfl⟩,z⟩
 ·refine ⟨its.toList,r,⟨o,n,I.kIn a o hk,hc,hd,by simpa using hs⟩,?_⟩
  have e:=r.length
  simp only [Array.length_toList] at e
  omega
theorem Inv.tuple (I:Inv X pins σ H s) (h:SqT X.K H a xs):∃ its:List Value,zbS xs its/\IsTup s.heap a its.toArray/\xs.length<=sizeLine:=by
 rcases h with h | ⟨o,its,n,hk,hc,hs,hz,r⟩
 ·obtain ⟨z,its,r,p⟩:=h.ok I.hok
  exact ⟨its,r,p,z⟩
 ·refine ⟨its.toList,r,⟨o,I.kIn a o hk,hc,n,by simpa using hs⟩,?_⟩
  have e:=r.length
  simp only [Array.length_toList] at e
  omega
theorem Inv.list_inj (I:Inv X pins σ H s) (h:SqL X.K H a xs) (h':SqL X.K H a ys):xs=ys:=by
 obtain ⟨its,r,⟨o,n,e,_,_,d⟩,_⟩:=I.list h
 obtain ⟨its',r',⟨o',n',e',_,_,d'⟩,_⟩:=I.list h'
 rw [e] at e';cases e'
 rw [d] at d'
 injection d' with d1 _
 have:its=its':=by simpa using congrArg Array.toList d1
 subst this
 exact r.inj r'
theorem Inv.tuple_inj (I:Inv X pins σ H s) (h:SqT X.K H a xs) (h':SqT X.K H a ys):xs=ys:=by
 obtain ⟨its,r,⟨o,e,_,n,d⟩,_⟩:=I.tuple h
 obtain ⟨its',r',⟨o',e',_,n',d'⟩,_⟩:=I.tuple h'
 rw [e] at e';cases e'
 rw [d] at d'
 injection d' with d1 _
 have:its=its':=by simpa using congrArg Array.toList d1
 subst this
 exact r.inj r'
end
abbrev Cx.wish (X:Cx) (E:Value->Shared->Prop):Cx:={ X with xe:=E }
abbrev Cx.nox (X:Cx):Cx:=X.wish fun _ _=>False
theorem Cx.Ok.wish {X:Cx} (ok:X.Ok) (E:Value->Shared->Prop):(X.wish E).Ok :=
 ⟨ok.mod,ok.kind,ok.glob,ok.blt,ok.above,ok.inj,ok.has,ok.cab,ok.hd,ok.frames,ok.stk,ok.exf,ok.bs,ok.bsz,ok.noex,ok.exfs,ok.funs,ok.frf⟩
theorem Cx.Ok.unwish {X:Cx} {E:Value->Shared->Prop} (ok:(X.wish E).Ok):X.Ok :=
 ⟨ok.mod,ok.kind,ok.glob,ok.blt,ok.above,ok.inj,ok.has,ok.cab,ok.hd,ok.frames,ok.stk,ok.exf,ok.bs,ok.bsz,ok.noex,ok.exfs,ok.funs,ok.frf⟩
section
variable {X:Cx} {pins:List (Addr×Obj)} {σ:St} {H:Hp} {s:Shared} {E:Value->Shared->Prop}
theorem Inv.wish (I:Inv X pins σ H s) (E:Value->Shared->Prop):Inv (X.wish E) pins σ H s:=⟨I.ok.wish E,I.os,I.bare,I.base,I.loc,I.cell,I.free,I.freeC,I.pin,I.hok,I.len⟩
theorem Inv.unwish (I:Inv (X.wish E) pins σ H s):Inv X pins σ H s:=⟨I.ok.unwish,I.os,I.bare,I.base,I.loc,I.cell,I.free,I.freeC,I.pin,I.hok,I.len⟩
theorem SP.unwish {D:Ends} {f:Flow} {s':Shared} (h:SP (X.wish E) pins D f s'):SP X pins D f s':=by
 cases f with
 | next=>obtain ⟨σ',H',I,q⟩:=h;exact ⟨σ',H',I.unwish,q⟩
 | brk=>obtain ⟨σ',H',I,q⟩:=h;exact ⟨σ',H',I.unwish,q⟩
 | cont=>obtain ⟨σ',H',I,q⟩:=h;exact ⟨σ',H',I.unwish,q⟩
 | ret u=>obtain ⟨v,σ',H',I,r,q⟩:=h;exact ⟨v,σ',H',I.unwish,r,q⟩
theorem PSs.nox {st:List Stmt} {t:TS} (h:PSs X.nox st t):PSs X st t:=fun pins s σ H D I hw =>
 wpAny_mono (h pins s σ H D (I.wish _) hw) (fun _ _ q=>q.unwish) fun _ _ z=>False.elim z
end
section
variable {X:Cx} {st:Stmt} {zgL:List Stmt} {t u:TS} {e:Expr} {te:TE} {pos:Pos}
def zt7:TS:=fun D σ H=>D.nx σ H
def zvt (t u:TS):TS:=fun D σ H=>t { D with nx:=u D } σ H
theorem zqy:PSs X [] zt7:=fun _ _ σ H _ I h=>wpAny_execs_nil ⟨σ,H,I,h⟩
theorem zou (h1:PS X st t) (h2:PSs X zgL u):PSs X (st::zgL) (zvt t u):=by
 intro pins s σ H D I h
 refine wpAny_execs_cons (thn (h1 pins s σ H { D with nx:=u D } I h) fun f s1 q=>?_)
 cases f with
 | next =>
  obtain ⟨σ',H',I',q⟩:=q
  exact h2 pins s1 σ' H' D I' q
 | ret v=>exact q
 | brk=>exact q
 | cont=>exact q
theorem zqx (h1:PS X st t):PSs X [st] t:=by
 intro pins s σ H D I h
 refine wpAny_execs_cons (thn (h1 pins s σ H D I h) fun f s1 q=>?_)
 cases f with
 | next=>exact wpAny_execs_nil q
 | ret v=>exact q
 | brk=>exact q
 | cont=>exact q
theorem Inv.quiet {pins:List (Addr×Obj)} {σ:St} {H:Hp} {s:Shared} (I:Inv X pins σ H s):interactive X.env=false:=by simp [interactive,I.ok.kind]
def zt9 (te:TE):TS:=fun D σ H=>te σ H fun _ H1=>D.nx σ H1
theorem zkj (he:PE X e te) (hs:swapsWith e none pos.line X.env=pure false:=by rfl):PS X (.Expr e pos) (zt9 te):=by
 intro pins s σ H D I h
 exact wpAny_Expr_any (thn (he pins s σ H _ I h) fun v s1 ⟨x,H1,I1,r1,q1⟩=>⟨σ,H1,I1,q1⟩) I.quiet hs
def zvu (te:TE):TS:=fun D σ H=>te σ H D.rt
theorem zmz (he:PE X e te):PS X (.Return (some e) pos) (zvu te):=by
 intro pins s σ H D I h
 exact wpAny_Return_some (thn (he pins s σ H _ I h) fun v s1 ⟨x,H1,I1,r1,q1⟩=>⟨x,σ,H1,I1,r1,q1⟩)
def zvx (c:TT) (t u:TS):TS:=fun D σ H=>c σ H fun b H1=>if b=true then t D σ H1 else u D σ H1
theorem zum {c:Expr} {a b:List Stmt} {tc:TT} (hc:PT X c tc) (ha:PSs X a t) (hb:PSs X b u):PS X (.If c a b pos) (zvx tc t u):=by
 intro pins s σ H D I h
 refine wpAny_If (thn (hc pins s σ H _ I h) fun d s1 ⟨H1,I1,q1⟩=>?_)
 cases d with
 | true=>exact ha pins s1 σ H1 D I1 q1
 | false=>exact hb pins s1 σ H1 D I1 q1
end
abbrev TG:=V->St->Hp->(St->Hp->Prop)->Prop
abbrev TGs:=List V->St->Hp->(St->Hp->Prop)->Prop
def PG (X:Cx) (target:Expr) (t:TG):Prop :=
 ∀ (pins:List (Addr×Obj)) (s:Shared) (σ:St) (H:Hp) (v:V) (u:Value) (Q:St->Hp->Prop),Inv X pins σ H s->zca v u->t v σ H Q ->
  wpAny (model X.prog X.w) X.A (assign target X.env u) (fun _ s'=>∃ σ' H',Inv X pins σ' H' s'/\Q σ' H') X.xe s
def PGs (X:Cx) (ts:List Expr) (t:TGs):Prop :=
 ∀ (pins:List (Addr×Obj)) (s:Shared) (σ:St) (H:Hp) (vs:List V) (us:List Value) (Q:St->Hp->Prop),Inv X pins σ H s->zbS vs us->t vs σ H Q ->
  wpAny (model X.prog X.w) X.A (assignInOrder ((assignEach ts X.env).map (·.2)) us) (fun _ s'=>∃ σ' H',Inv X pins σ' H' s'/\Q σ' H') X.xe s
abbrev zuT:=V->V->V->Hp->(Hp->Prop)->Prop
def zvo (X:Cx) (t:zuT):Prop :=
 ∀ (pins:List (Addr×Obj)) (s:Shared) (σ:St) (H:Hp) (o i v:V) (ov iv u:Value) (Q:Hp->Prop),Inv X pins σ H s->zca o ov->zca i iv->zca v u->t o i v H Q ->
  wpAny (model X.prog X.w) X.A (setItem ov iv u) (fun _ s'=>∃ H',Inv X pins σ H' s'/\Q H') X.xe s
section
variable {X:Cx} {pos:Pos}
def znn (i:Nat):TG:=fun v σ H Q=>Q (σ.set i (some v)) H
theorem zqG {i:Nat} {x:Str} (hN:X.N.Nodup) (hi:X.N[i]?=some x) (hx:Loc X.env.scope x) (hf:X.fn x=true\/X.env.scope.names.lookup x=some .local:=by first | exact .inl rfl | exact .inr rfl | assumption):PG X (.Name x pos) (znn i):=by
 intro pins s σ H v u Q I r h
 exact wpAny_assign_Name (zkZ I hN hi hx r (fun s' I'=>⟨_,H,I',h⟩) hf)
def zvT:TGs:=fun vs σ H Q=>vs=[]/\Q σ H
def zuI (t:TG) (u:TGs):TGs:=fun vs σ H Q=>∃ v r,vs=v::r/\t v σ H fun σ' H'=>u r σ' H' Q
theorem zqF:PGs X [] zvT:=by
 intro pins s σ H vs us Q I r h
 obtain ⟨e,h⟩:=h
 subst e
 cases r
 exact assignInOrder_nil ⟨σ,H,I,h⟩
theorem zox {e:Expr} {es:List Expr} {t:TG} {u:TGs} (h1:PG X e t) (h2:PGs X es u)
  (hs:(assignEach (e::es) X.env).map (·.2)=assign e X.env::(assignEach es X.env).map (·.2):=by rfl):PGs X (e::es) (zuI t u):=by
 intro pins s σ H vs us Q I r h
 obtain ⟨v,vr,e1,h⟩:=h
 subst e1
 cases r with
 | cons r rr =>
  rw [hs]
  refine assignInOrder_cons (thn (h1 pins s σ H _ _ _ I r h) fun _ s1 ⟨σ1,H1,I1,q1⟩=>?_)
  exact h2 pins s1 σ1 H1 _ _ Q I1 rr q1
def zvR (K:PySem.W.Frag) (n:Nat) (t:TGs):TG:=fun v σ H Q=>∃ a xs,v=.ref a/\SqT K H a xs/\xs.length=n/\t xs σ H Q
theorem zsK {es:List Expr} {k:Nat} {t:TGs} {n:Nat} (hc:X.calm=true) (h:PGs X es t)
  (hn:(assignEach es X.env).length=n:=by rfl) (hst:(assignEach es X.env).findIdx? (·.1)=none:=by rfl):PG X (.Tuple es k pos) (zvR X.K n t):=by
 intro pins s σ H v u Q I r hw
 obtain ⟨a,xs,e1,hq,hl,hw⟩:=hw
 subst e1
 cases r
 obtain ⟨its,rv,ht,hz⟩:=I.tuple hq
 refine assign_Tuple_tuple (I.ok.hd hc) ht (by simp [hn,← hl,rv.length]) hst fun h' hx=>?_
 have I1:Inv X pins σ H { s with heap:=h' }:=I.kept (t':=s.toks) fun b o e=>hx b o (qB (qv e)) e
 exact h pins _ σ H xs _ Q I1 (by simpa using rv) hw
def zvS (to ti:TE) (t:zuT):TG:=fun v σ H Q=>to σ H fun o H1=>ti σ H1 fun i H2=>t o i v H2 fun H3=>Q σ H3
theorem zsL {o i:Expr} {to ti:TE} {t:zuT} (ho:PE X o to) (hi:PE X i ti) (hs:zvo X t)
  (ha:∀ v,assign (.Subscript o i pos) X.env v=(do
   let ov ← holding [v] (eval o X.env)
   let iv ← holding [v,ov] (eval i X.env)
   standAt pos
   holding [v,ov,iv] (setItem ov iv v)
   release [v,ov,iv] []):=by intro _;rfl):PG X (.Subscript o i pos) (zvS to ti t):=by
 intro pins s σ H v u Q I r h
 rw [ha]
 refine qx (wpAny_holding (thn (ho pins s σ H _ I h) fun ov s1 ⟨x,H1,I1,r1,q1⟩=>?_))
 refine qx (wpAny_holding (thn (hi pins s1 σ H1 _ I1 q1) fun iv s2 ⟨y,H2,I2,r2,q2⟩=>?_))
 refine qx (wpAny_standAt (qx (wpAny_holding (thn (hs pins s2 σ H2 x y v ov iv u _ I2 r1 r2 r q2) fun _ s3 ⟨H3,I3,q3⟩=>?_))))
 exact wpAny_release ⟨σ,H3,I3,q3⟩
def zsm (te:TE) (g:TG):TS:=fun D σ H=>te σ H fun x H1=>g x σ H1 D.nx
theorem zmA {tg e:Expr} {te:TE} {g:TG} (he:PE X e te) (hg:PG X tg g) (hs:swapsWithSole [tg] e pos.line X.env=pure false:=by rfl) (hw:swappedStores [tg] e X.env=pure none:=by rfl)
  (h1:(assignEach [tg] X.env).map (·.2)=[assign tg X.env]:=by rfl):PS X (.Assign [tg] e pos) (zsm te g):=by
 intro pins s σ H D I h
 refine wpAny_Assign_stores (thn (he pins s σ H _ I h) fun v s1 ⟨x,H1,I1,r1,q1⟩=>?_) hs hw
 rw [h1]
 exact thn (hg pins s1 σ H1 x v _ I1 r1 q1) fun _ s2 q=>q
theorem zk4 {i:Nat} {x:Str} {e:Expr} {te:TE} {pos':Pos} (hN:X.N.Nodup) (hi:X.N[i]?=some x) (hx:Loc X.env.scope x) (he:PE X e te) (hs:swapsWith e (some (.Name x pos')) pos.line X.env=pure false:=by rfl) (hf:X.fn x=true\/X.env.scope.names.lookup x=some .local:=by first | exact .inl rfl | exact .inr rfl | assumption) :
  PS X (.Assign [.Name x pos'] e pos) (zsm te (znn i)):=by
 intro pins s σ H D I h
 refine wpAny_Assign_Name (thn (he pins s σ H _ I h) fun v s1 ⟨y,H1,I1,r1,q1⟩=>?_) hs
 exact zkZ I1 hN hi hx r1 (fun s2 I2=>⟨_,H1,I2,q1⟩) hf
end
section
variable {X:Cx} {pos:Pos}
end
structure It where
 go:Nat->Hp->Prop
 yld:Nat->Hp->V->Hp->Prop
 stop:Nat->Hp->Prop
def zl9 (X:Cx) (pins:List (Addr×Obj)) (H:Hp) (b:Addr):Prop :=
 H b=none/\b≠X.env.locals/\b∉X.fs/\(b∈X.ex\/X.s₀.heap.objs.size<=b)/\(∀ x c,X.env.cells.lookup x=some c->c≠b)/\∀ p∈X.pn++pins,p.1≠b
theorem Inv.fpOk {X:Cx} {pins:List (Addr×Obj)} {σ:St} {H H':Hp} {s:Shared} {b:Addr} (I:Inv X pins σ H s) (hb:s.heap.objs.size<=b) (hn:H' b=none):zl9 X pins H' b:=by
 refine ⟨hn,Nat.ne_of_gt (qE I.lt hb),I.nofs hb,.inr (qK I.sz hb),fun x c e z=>?_,fun p hp z=>?_⟩
 ·obtain ⟨v,q⟩:=I.cell x c e
  exact absurd (qE q.lt (by rw [z];exact hb)) (Nat.lt_irrefl _)
 ·exact absurd (qE (qv (I.pin p hp).1) (by rw [z];exact hb)) (Nat.lt_irrefl _)
structure Turn (P:Program) (w:World) (K:PySem.W.Frag) (tg:Expr) (J:It) (fp:List Addr) (it:Addr) (tn:Nat->Heap->Prop):Prop where
 mem:it∈fp
 obj:∀ i h,tn i h->∀ b∈fp,∃ o,h.get? b=some o/\∀ v,o.data≠.cell v
 keep:∀ i h h',tn i h->(∀ b∈fp,∀ o,h.get? b=some o->h'.get? b=some o)->tn i h'
 item:∀ (X:Cx),X.prog=P->X.w=w->X.K=K->X.calm=true->∀ (i:Nat) (pins:List (Addr×Obj)) (s:Shared) (σ:St) (H:Hp) (E:Value->Shared->Prop),Inv X pins σ H s->(∀ b∈fp,zl9 X pins H b)->tn i s.heap->J.go i H ->
  wpAny (model P w) X.A (pyNext (.ref it)) (fun r s1=>∃ u,r=some u /\
   wpAny (model P w) X.A (letOwnedTupleGo tg (.ref it) u) (fun _ s2=>∃ x H',Inv X pins σ H' s2/\zca x u/\J.yld i H x H'/\tn (i+1) s2.heap/\∀ b∈fp,H' b=none) E s1) E s
 done:∀ (X:Cx),X.prog=P->X.w=w->X.K=K->X.calm=true->∀ (i:Nat) (pins:List (Addr×Obj)) (s:Shared) (σ:St) (H:Hp) (E:Value->Shared->Prop),Inv X pins σ H s->(∀ b∈fp,zl9 X pins H b)->tn i s.heap->J.stop i H ->
  wpAny (model P w) X.A (pyNext (.ref it)) (fun r s1=>r=none/\Inv X pins σ H s1) E s
 self:∀ (A:Around) (i:Nat) (s:Shared) (Q:Value->Shared->Prop) (E:Value->Shared->Prop),tn i s.heap->Q (.ref it) s->wpAny (model P w) A (pyIter (.ref it)) Q E s
abbrev TI:=St->Hp->(It->Hp->Prop)->Prop
def PIE (X:Cx) (pins:List (Addr×Obj)) (σ:St) (tg:Expr) (R:It->Hp->Prop) (itv:Value) (s2:Shared):Prop :=
 ∃ (it:Addr) (fp:List Addr) (tn:Nat->Heap->Prop) (J:It) (H':Hp),itv=.ref it/\Inv X pins σ H' s2/\Turn X.prog X.w X.K tg J fp it tn/\tn 0 s2.heap/\(∀ b∈fp,zl9 X pins H' b)/\R J H'
def PI (X:Cx) (tg iter:Expr) (wi:TI):Prop :=
 ∀ (pins:List (Addr×Obj)) (s:Shared) (σ:St) (H:Hp) (R:It->Hp->Prop),Inv X pins σ H s->wi σ H R ->
  wpAny (model X.prog X.w) X.A (eval iter X.env) (fun v s1=>wpAny (model X.prog X.w) X.A (pyIter v) (PIE X pins σ tg R) X.xe s1) X.xe s
theorem zoW {M:Model} {A:Around} {E:Value->Shared->Prop} {s:Shared} {tg:Expr} {it:Addr} {u:Value} {o:Obj} {n:String} {vs:Array Value} {Q:Unit->Shared->Prop} (ho:s.heap.get? it=some o) (hc:o.cls=.type n) (hd:o.data=.fields vs)
  (hn:["enumerate","zip","dict_itemiterator","dict_reverseitemiterator","odict_iterator","itertools.zip_longest","itertools.pairwise"].contains n=false) (hQ:Q () s):wpAny M A (letOwnedTupleGo tg (.ref it) u) Q E s:=by
 unfold letOwnedTupleGo
 cases tg <;> first
  | exact qz hQ
  | (cases u <;> first
    | exact qz hQ
    | (refine qx (wpAny_load ho ?_);rw [hc,hd];show wpAny M A (if (["enumerate","zip","dict_itemiterator","dict_reverseitemiterator","odict_iterator","itertools.zip_longest","itertools.pairwise"].contains n && vs[0]?==some (rawInt _))=true then _ else _) Q E s;rw [qV (by intro h;rw [hn,Bool.false_and] at h;cases h)];exact qz hQ))
def Itl (K:PySem.W.Frag) (a:Addr):It :=
 ⟨fun i H=>∃ xs x,SqL K H a xs/\xs[i]?=some x,fun i H x H'=>H'=H/\∀ xs,SqL K H a xs->xs[i]?=some x,fun i H=>∃ xs,SqL K H a xs/\xs.length<=i⟩
def Itt (K:PySem.W.Frag) (a:Addr):It :=
 ⟨fun i H=>∃ xs x,SqT K H a xs/\xs[i]?=some x,fun i H x H'=>H'=H/\∀ xs,SqT K H a xs->xs[i]?=some x,fun i H=>∃ xs,SqT K H a xs/\xs.length<=i⟩
def Itr (lo:Int) (n:Nat):It:=⟨fun i _=>i < n,fun i H x H'=>H'=H/\x=.int (lo+i),fun i _=>n<=i⟩
theorem zmd {P:Program} {w:World} {K:PySem.W.Frag} {tg:Expr} (a it:Addr):Turn P w K tg (Itl K a) [it] it (fun i h=>h.IsListIter it a i) where
 mem:=by simp
 obj:=fun i h st b hb=>by
  have e:b=it:=by simpa using hb
  subst e
  obtain ⟨o,e,c,d⟩:=st
  exact ⟨o,e,fun v z=>by rw [d] at z;cases z⟩
 keep:=fun i h h' st k=>st.at fun o e=>k it (by simp) o e
 item:=by
  intro X hP hw hK hc i pins s σ H E I hf st hg
  subst hP hw hK
  obtain ⟨xs,x,hq,hx⟩:=hg
  obtain ⟨its,rv,p,hz⟩:=I.list hq
  obtain ⟨u,hu,ru⟩:=rv.get hx
  obtain ⟨f0,f1,f2,f3,f4,f5⟩:=hf it (by simp)
  refine wpAny_pyNext_list_item st p.isList (x:=u) (by simpa using hu) fun h' st' sb=>?_
  have I1:Inv X pins σ H { s with heap:=h' }:=I.turned (t':=s.toks) (fun b o hb e=>(sb.2 b hb).trans e) f0 f1 f3 f4 f5
  obtain ⟨o,e,c,d⟩:=id st'
  exact ⟨u,rfl,zoW (s:={ s with heap:=h' }) e c d (by decide) ⟨x,H,I1,ru,⟨rfl,fun ys hy=>by rw [I.list_inj hy hq];exact hx⟩,st',fun b hb=>(hf b hb).1⟩⟩
 done:=by
  intro X hP hw hK hc i pins s σ H E I hf st hg
  subst hP hw hK
  obtain ⟨xs,hq,hx⟩:=hg
  obtain ⟨its,rv,p,hz⟩:=I.list hq
  obtain ⟨f0,f1,f2,f3,f4,f5⟩:=hf it (by simp)
  have hl:=rv.length
  exact wpAny_pyNext_list_end (I.ok.hd hc) st p.isList (by simp;omega) fun h' eb=>⟨rfl,I.turned (t':=s.toks) (fun b o hb e=>eb b o hb e) f0 f1 f3 f4 f5⟩
 self:=fun _ _ _ _ _ st h=>wpAny_pyIter_listiter st h
theorem zlz {P:Program} {w:World} {K:PySem.W.Frag} {tg:Expr} (a it:Addr):Turn P w K tg (Itt K a) [it] it (fun i h=>h.IsTupleIter it a i) where
 mem:=by simp
 obj:=fun i h st b hb=>by
  have e:b=it:=by simpa using hb
  subst e
  obtain ⟨o,e,c,d⟩:=st
  exact ⟨o,e,fun v z=>by rw [d] at z;cases z⟩
 keep:=fun i h h' st k=>st.at fun o e=>k it (by simp) o e
 item:=by
  intro X hP hw hK hc i pins s σ H E I hf st hg
  subst hP hw hK
  obtain ⟨xs,x,hq,hx⟩:=hg
  obtain ⟨its,rv,p,hz⟩:=I.tuple hq
  obtain ⟨u,hu,ru⟩:=rv.get hx
  obtain ⟨f0,f1,f2,f3,f4,f5⟩:=hf it (by simp)
  refine wpAny_pyNext_tuple_item st (show s.heap.IsTuple a its.toArray from p) (x:=u) (by simpa using hu) fun h' st' sb=>?_
  have I1:Inv X pins σ H { s with heap:=h' }:=I.turned (t':=s.toks) (fun b o hb e=>(sb.2 b hb).trans e) f0 f1 f3 f4 f5
  obtain ⟨o,e,c,d⟩:=id st'
  exact ⟨u,rfl,zoW (s:={ s with heap:=h' }) e c d (by decide) ⟨x,H,I1,ru,⟨rfl,fun ys hy=>by rw [I.tuple_inj hy hq];exact hx⟩,st',fun b hb=>(hf b hb).1⟩⟩
 done:=by
  intro X hP hw hK hc i pins s σ H E I hf st hg
  subst hP hw hK
  obtain ⟨xs,hq,hx⟩:=hg
  obtain ⟨its,rv,p,hz⟩:=I.tuple hq
  obtain ⟨f0,f1,f2,f3,f4,f5⟩:=hf it (by simp)
  have hl:=rv.length
  exact wpAny_pyNext_tuple_end (I.ok.hd hc) st (show s.heap.IsTuple a its.toArray from p) (by simp;omega) fun h' eb=>⟨rfl,I.turned (t':=s.toks) (fun b o hb e=>eb b o hb e) f0 f1 f3 f4 f5⟩
 self:=fun _ _ _ _ _ st h=>wpAny_pyIter_tupleiter st h
theorem zlA {P:Program} {w:World} {K:PySem.W.Frag} {tg:Expr} (it:Addr) (lo:Int) (n:Nat):Turn P w K tg (Itr lo n) [it] it (fun i h=>IsRangeIter h it (lo+(i:Nat)*1) ((n:Int) - (i:Nat)) 1) where
 mem:=by simp
 obj:=fun i h st b hb=>by
  have e:b=it:=by simpa using hb
  subst e
  exact ⟨_,st,fun v z=>by
   have z':Data.fields _=Data.cell v:=z
   cases z'⟩
 keep:=fun i h h' st k=>k it (by simp) _ st
 item:=by
  intro X hP hw hK hc i pins s σ H E I hf st hg
  subst hP hw hK
  obtain ⟨f0,f1,f2,f3,f4,f5⟩:=hf it (by simp)
  have W:=Walks.range (prog:=X.prog) (w:=X.w) (I.ok.hd hc) it lo 1 n
  refine W.item i s _ _ hg st fun v h' tk hv st' kk=>?_
  obtain ⟨t,rfl⟩:=hv
  have I1:Inv X pins σ H { s with heap:=h',toks:=tk }:=I.turned (fun b o hb e=>kk b o (by simpa using hb) e) f0 f1 f3 f4 f5
  refine ⟨_,rfl,zoW (s:={ s with heap:=h',toks:=tk }) (n:="range_iterator") st' rfl rfl (by decide) ⟨.int (lo+i),H,I1,⟨t,?_⟩,⟨rfl,rfl⟩,st',fun b hb=>(hf b hb).1⟩⟩
  rw [Int.mul_one]
 done:=by
  intro X hP hw hK hc i pins s σ H E I hf st hg
  subst hP hw hK
  obtain ⟨f0,f1,f2,f3,f4,f5⟩:=hf it (by simp)
  exact wpAny_pyNext_range_end (I.ok.hd hc) st (by have:n<=i:=hg;omega) fun h' eb=>⟨rfl,I.turned (t':=s.toks) (fun b o hb e=>eb b o hb e) f0 f1 f3 f4 f5⟩
 self:=fun _ _ _ _ _ st h=>wpAny_pyIter_rangeiter st h
end L2
namespace L2
open PySem PySem.Spec PyProof.Rows
section
variable {X:Cx} {tg:Expr}
theorem zk3 {pins:List (Addr×Obj)} {σ:St} {H:Hp} {s:Shared} {R:It->Hp->Prop} {E:Value->Shared->Prop} {lo hi:Int} {t u v:Tok} {tk:Nat} (I:Inv X pins σ H s) (h1 : -(2 ^ 62)<=lo) (h2:lo < 2 ^ 62) (h3 : -(2 ^ 62)<=hi) (h4:hi < 2 ^ 62)
  (q:R (Itr lo (hi - lo).toNat) H):wpAny (model X.prog X.w) X.A (pyIter (.ref s.heap.objs.size)) (PIE X pins σ tg R) E { s with heap:=s.heap.push { cls:=.type "range",data:=.fields #[.int lo t,.int hi u,.int 1 v] },toks:=tk }:=by
 refine wpAny_pyIter_range (IsRange.new ..) (small_one h1 h2 h3 h4) ?_
 have I1:Inv X pins σ H { s with heap:=s.heap.push { cls:=.type "range",data:=.fields #[.int lo t,.int hi u,.int 1 v] },toks:=tk }:=I.kept fun b o e=>qu _ e
 refine ⟨(s.heap.push { cls:=.type "range",data:=.fields #[.int lo t,.int hi u,.int 1 v] }).objs.size,[(s.heap.push { cls:=.type "range",data:=.fields #[.int lo t,.int hi u,.int 1 v] }).objs.size],_,_,H,rfl,
  I1.kept (t':=tk) fun b o e=>qu _ e,zlA _ lo (hi - lo).toNat,?_,fun b hb=>?_,q⟩
 ·have e1:lo+((0:Nat):Int)*1=lo:=by simp
  have e2:(((hi - lo).toNat:Nat):Int) - ((0:Nat):Int)=Builtin.Range.rangeSize lo hi 1:=by rw [rangeSize_one];split <;> omega
  show IsRangeIter _ _ (lo+((0:Nat):Int)*1) ((((hi - lo).toNat:Nat):Int) - ((0:Nat):Int)) 1
  rw [e1,e2]
  exact qF _ rfl
 ·have e:b=(s.heap.push { cls:=.type "range",data:=.fields #[.int lo t,.int hi u,.int 1 v] }).objs.size:=by simpa using hb
  subst e
  exact I1.fpOk (qw _) (I1.hok.fresh (qw _))
def zuF (ta:TA):TI:=fun σ H R=>ta σ H fun vs H1=>∃ j:Int,vs=[.int j] /\ -(2 ^ 62)<=j/\j < 2 ^ 62/\R (Itr 0 j.toNat) H1
def zuE (ta:TA):TI:=fun σ H R=>ta σ H fun vs H1=>∃ i j:Int,vs=[.int i,.int j]/\(-(2 ^ 62)<=i/\i < 2 ^ 62 /\ -(2 ^ 62)<=j/\j < 2 ^ 62)/\R (Itr i (j - i).toNat) H1
theorem zmF {a:Expr} {ta:TA} {p pos:Pos} (hg:Gl X "range") (hm:X.mg "range"=none) (ha:PA X [a] ta) (hs:starEach [a] X.env=[(false,eval a X.env)]:=by rfl):PI X tg (.Call (.Name "range" p) [a] [] pos) (zuF ta):=by
 intro pins s σ H R I h
 refine Call_ (zif I hg hm boot_range (PyProof.Rows.callWith_type1 (thn (ha pos pins s σ H _ I h) fun us s1 ⟨vs,H1,I1,r1,q1⟩=>?_) hs rfl))
 obtain ⟨j,e,q1,q2,q⟩:=q1
 subst e
 cases r1 with
 | cons r rr =>
  cases rr
  obtain ⟨t,rfl⟩:=r
  exact call_range_1 (zk3 I1 (by omega) (by omega) q1 q2 (by simpa using q))
theorem zmE {a b:Expr} {ta:TA} {p pos:Pos} (hg:Gl X "range") (hm:X.mg "range"=none) (ha:PA X [a,b] ta) (hs:starEach [a,b] X.env=[(false,eval a X.env),(false,eval b X.env)]:=by rfl) (hs2:starEach [b] X.env=[(false,eval b X.env)]:=by rfl) :
  PI X tg (.Call (.Name "range" p) [a,b] [] pos) (zuE ta):=by
 intro pins s σ H R I h
 refine Call_ (zif I hg hm boot_range (PyProof.Rows.callWith_type1 (thn (ha pos pins s σ H _ I h) fun us s1 ⟨vs,H1,I1,r1,q1⟩=>?_) (by rw [hs,hs2]) (by rw [hs2];rfl)))
 obtain ⟨i,j,e,⟨q1,q2,q3,q4⟩,q⟩:=q1
 subst e
 cases r1 with
 | cons r rr =>
  cases rr with
  | cons r' rr =>
   cases rr
   obtain ⟨t,rfl⟩:=r
   obtain ⟨t',rfl⟩:=r'
   exact call_range_2 (zk3 I1 q1 q2 q3 q4 q)
def zvy (wi:TI) (g:TG) (tb:TS):TS:=fun D σ H=>wi σ H fun J H1=>∃ W:Nat->Nat->St->Hp->Prop,(∃ m,W 0 m σ H1)/\∀ i m σ H,W i m σ H ->
 (J.stop i H/\D.nx σ H)\/(J.go i H/\∃ N:St->Hp->Prop,(∀ σ' H',N σ' H'->∃ m',m' < m/\W (i+1) m' σ' H')/\∀ x H',J.yld i H x H'->g x σ H' fun σ2 H2=>tb { D with nx:=N,ct:=N,bk:=D.nx } σ2 H2)
def zjv (fp:List Addr) (h:Heap):List (Addr×Obj):=fp.filterMap fun b=>(h.get? b).map fun o=>(b,o)
theorem zeH {fp:List Addr} {h:Heap} {b:Addr} {o:Obj} (hb:b∈fp) (e:h.get? b=some o):(b,o)∈zjv fp h:=List.mem_filterMap.mpr ⟨b,hb,by rw [e];rfl⟩
theorem zmN {fp:List Addr} {h:Heap} {p:Addr×Obj} (hp:p∈zjv fp h):p.1∈fp/\h.get? p.1=some p.2:=by
 obtain ⟨b,hb,e⟩:=List.mem_filterMap.mp hp
 cases q:h.get? b with
 | none=>rw [q] at e;cases e
 | some o =>
  rw [q] at e
  have e':(b,o)=p:=qG e
  subst e'
  exact ⟨hb,q⟩
theorem Inv.pinned {pins:List (Addr×Obj)} {σ:St} {H:Hp} {s:Shared} {fp:List Addr} (I:Inv X pins σ H s) (hf:∀ b∈fp,zl9 X pins H b) (ho:∀ b∈fp,∃ o,s.heap.get? b=some o/\∀ v,o.data≠.cell v):Inv X (pins++zjv fp s.heap) σ H s :=
 I.pins_of fun p hp=>(List.mem_append.mp hp).elim (fun z=>I.pin p (qO _ z)) fun z=>by
  obtain ⟨hb,e⟩:=zmN z
  obtain ⟨f0,f1,f2,_⟩:=hf p.1 hb
  obtain ⟨o,e',d⟩:=ho p.1 hb
  rw [e] at e';cases e'
  exact ⟨e,f0,f1,f2,d⟩
theorem Inv.unpinned {pins pl:List (Addr×Obj)} {σ:St} {H:Hp} {s:Shared} (I:Inv X (pins++pl) σ H s):Inv X pins σ H s:=I.pins_of fun p hp=>I.pin p (qO _ (List.mem_append_left _ hp))
theorem zsG {iter:Expr} {body:List Stmt} {wi:TI} {g:TG} {tb:TS} {pos:Pos} (hp:PassesOwn (model X.prog X.w) X.A X.env X.xe) (hc:X.calm=true) (hi:PI X tg iter wi) (hg:PG X tg g) (hb:PSs X body tb)
  (hs:∀ x,foldedSetIterable iter X.env x=pure x:=by intro _;rfl):PS X (.For tg iter body [] pos) (zvy wi g tb):=by
 intro pins s σ H D I h
 refine wpAny_For (thn (hi pins s σ H _ I h) fun v s1 h1=>thn h1 fun itv s2 h2=>?_) hs
 obtain ⟨it,fp,tn,J,H2,e,I2,T,st2,f2,W,⟨m0,w0⟩,turn⟩:=h2
 subst e
 have stat:∀ {H':Hp},(∀ b∈fp,H' b=none)->∀ b∈fp,zl9 X pins H' b:=fun hn b hb=>⟨hn b hb,(f2 b hb).2⟩
 refine codeAny_forLoop_any (fun n s'=>∃ i σ' H',Inv X pins σ' H' s'/\tn i s'.heap/\(∀ b∈fp,H' b=none)/\W i n σ' H') ?_ m0 ⟨0,σ,H2,I2,st2,fun b hb=>(f2 b hb).1,w0⟩
 rintro n s3 ⟨i,σ3,H3,I3,st3,fr3,w3⟩
 rcases turn i n σ3 H3 w3 with ⟨stop,qn⟩ | ⟨go,N,hN,step⟩
 ·refine wpAny_passesOwn hp (thn (T.done X rfl rfl rfl hc i pins s3 σ3 H3 X.xe I3 (stat fr3) st3 stop) fun r s4 ⟨hr,I4⟩=>?_)
  subst hr
  exact wpAny_execs_nil ⟨σ3,H3,I4,qn⟩
 ·refine wpAny_passesOwn hp (thn (T.item X rfl rfl rfl hc i pins s3 σ3 H3 X.xe I3 (stat fr3) st3 go) fun r s4 ⟨u,hr,h4⟩=>?_)
  subst hr
  refine wpAny_passesOwn hp (thn h4 fun _ s5 ⟨x,H5,I5,r5,y5,st5,fr5⟩=>?_)
  have I5':=I5.pinned (stat fr5) (T.obj _ _ st5)
  refine wpAny_passesOwn hp (thn (hg _ s5 σ3 H5 x u _ I5' r5 (step x H5 y5)) fun _ s6 ⟨σ6,H6,I6,q6⟩=>?_)
  refine wpAny_passesOwn hp (thn (hb _ s6 σ6 H6 _ I6 q6) fun f s7 q7=>?_)
  have again:∀ {σ7:St} {H7:Hp},Inv X (pins++zjv fp s5.heap) σ7 H7 s7->N σ7 H7->∃ m,m < n/\∃ i σ' H',Inv X pins σ' H' s7/\tn i s7.heap/\(∀ b∈fp,H' b=none)/\W i m σ' H':=fun {σ7 H7} I7 n7=>by
   obtain ⟨m',hm,w7⟩:=hN σ7 H7 n7
   refine ⟨m',hm,i+1,σ7,H7,I7.unpinned,T.keep _ _ _ st5 fun b hb o e=>(I7.pin (b,o) (qO _ (qO _ (zeH hb e)))).1,fun b hb=>?_,w7⟩
   obtain ⟨o,e,d⟩:=T.obj _ _ st5 b hb
   exact (I7.pin (b,o) (qO _ (qO _ (zeH hb e)))).2.1
  cases f with
  | next=>obtain ⟨σ7,H7,I7,n7⟩:=q7;exact again I7 n7
  | cont=>obtain ⟨σ7,H7,I7,n7⟩:=q7;exact again I7 n7
  | brk=>obtain ⟨σ7,H7,I7,q7⟩:=q7;exact ⟨σ7,H7,I7.unpinned,q7⟩
  | ret v=>obtain ⟨x7,σ7,H7,I7,r7,q7⟩:=q7;exact ⟨x7,σ7,H7,I7.unpinned,r7,q7⟩
end
end L2
namespace L2
open PySem PySem.Spec PyProof.Rows
abbrev R2:=V->V->Hp->VK->Prop
def OpR (X:Cx) (f:Value->Value->Sem Value) (r:R2):Prop :=
 ∀ (pins:List (Addr×Obj)) (s:Shared) (σ:St) (H:Hp) (x y:V) (v u:Value) (Q:VK),Inv X pins σ H s->zca x v->zca y u->r x y H Q ->
  wpAny (model X.prog X.w) X.A (f v u) (EP X pins σ Q) X.xe s
def UnR (X:Cx) (f:Value->Sem Value) (r:V->Hp->VK->Prop):Prop :=
 ∀ (pins:List (Addr×Obj)) (s:Shared) (σ:St) (H:Hp) (x:V) (v:Value) (Q:VK),Inv X pins σ H s->zca x v->r x H Q ->
  wpAny (model X.prog X.w) X.A (f v) (EP X pins σ Q) X.xe s
def zdJ (X:Cx) (f:Value) (r:List V->Hp->VK->Prop):Prop :=
 ∀ (pins:List (Addr×Obj)) (s:Shared) (σ:St) (H:Hp) (xs:List V) (us:List Value) (Q:VK),Inv X pins σ H s->zbS xs us->r xs H Q ->
  wpAny (model X.prog X.w) X.A (call f us) (EP X pins σ Q) X.xe s
def zvX (X:Cx) (r:V->Hp->(Bool->Hp->Prop)->Prop):Prop :=
 ∀ (pins:List (Addr×Obj)) (s:Shared) (σ:St) (H:Hp) (x:V) (v:Value) (Q:Bool->Hp->Prop),Inv X pins σ H s->zca x v->r x H Q ->
  wpAny (model X.prog X.w) X.A (truthy v) (TP X pins σ Q) X.xe s
def tOp (r:R2) (ta tb:TE):TE:=fun σ H Q=>ta σ H fun x H1=>tb σ H1 fun y H2=>r x y H2 Q
def tUn (r:V->Hp->VK->Prop) (ta:TE):TE:=fun σ H Q=>ta σ H fun x H1=>r x H1 Q
def rI (C:Int->Int->Prop) (g:Int->Int->V):R2:=fun x y H Q=>∃ i j,x=.int i/\y=.int j/\C i j/\Q (g i j) H
def rI0 (g:Int->Int->V):R2:=fun x y H Q=>∃ i j,x=.int i/\y=.int j/\Q (g i j) H
def rU (g:Int->V):V->Hp->VK->Prop:=fun x H Q=>∃ i,x=.int i/\Q (g i) H
section
variable {X:Cx} {a b c:Expr} {ta tb tc:TE} {pos:Pos}
theorem zuO (ha:PE X a ta) (hb:PE X b tb) {pins:List (Addr×Obj)} {s:Shared} {σ:St} {H:Hp} {R:V->V->Hp->Prop} (I:Inv X pins σ H s)
  (h:ta σ H fun x H1=>tb σ H1 fun y H2=>R x y H2) {Q:Value->Shared->Prop} {f:Value->Value->Sem Value}
  (hf:∀ v u s2 x y H2,Inv X pins σ H2 s2->zca x v->zca y u->R x y H2->wpAny (model X.prog X.w) X.A (f v u) Q X.xe s2) :
  wpAny (model X.prog X.w) X.A (eval a X.env) (fun v s₁=>wpAny (model X.prog X.w) X.A (eval b X.env) (fun u s₂=>wpAny (model X.prog X.w) X.A (f v u) Q X.xe s₂) X.xe s₁) X.xe s:=by
 refine thn (ha pins s σ H _ I h) fun v s1 ⟨x,H1,I1,r1,q1⟩=>?_
 refine thn (hb pins s1 σ H1 _ I1 q1) fun u s2 ⟨y,H2,I2,r2,q2⟩=>?_
 exact hf v u s2 x y H2 I2 r1 r2 q2
theorem zuo {op:Operator} {r:R2} (ho:OpR X (binaryOp op) r) (ha:PE X a ta) (hb:PE X b tb):PE X (.BinOp a op b pos) (tOp r ta tb):=by
 intro pins s σ H Q I h
 exact wpAny_BinOp (zuO ha hb I h fun v u s2 x y H2 I2 rx ry q=>ho pins s2 σ H2 x y v u Q I2 rx ry q)
theorem zun {op:UnaryOp} {r:V->Hp->VK->Prop} (ho:UnR X (unaryOp op) r) (ha:PE X a ta):PE X (.UnaryOp op a pos) (tUn r ta):=by
 intro pins s σ H Q I h
 exact UnaryOp_ (thn (ha pins s σ H _ I h) fun v s1 ⟨x,H1,I1,r1,q1⟩=>ho pins s1 σ H1 x v Q I1 r1 q1)
theorem opI {f:Value->Value->Sem Value} {C:Int->Int->Prop} {g:Int->Int->Int}
  (rule:∀ (i j:Int) (t u:Tok) (s:Shared) (Q:Value->Shared->Prop) (E:Value->Shared->Prop),C i j->Q (.int (g i j) s.toks) { s with toks:=s.toks+1 }->wpAny (model X.prog X.w) X.A (f (.int i t) (.int j u)) Q E s) :
  OpR X f (rI C fun i j=>.int (g i j)):=by
 intro pins s σ H x y v u Q I rx ry h
 obtain ⟨i,j,rfl,rfl,hc,q⟩:=h
 obtain ⟨t,rfl⟩:=rx
 obtain ⟨t',rfl⟩:=ry
 exact rule i j t t' s _ _ hc ⟨.int (g i j),H,I.tok _,⟨_,rfl⟩,q⟩
theorem zvd {f:Value->Value->Sem Value} {g:Int->Int->Int}
  (rule:∀ (i j:Int) (t u:Tok) (s:Shared) (Q:Value->Shared->Prop) (E:Value->Shared->Prop),Q (.int (g i j) s.toks) { s with toks:=s.toks+1 }->wpAny (model X.prog X.w) X.A (f (.int i t) (.int j u)) Q E s) :
  OpR X f (rI0 fun i j=>.int (g i j)):=by
 intro pins s σ H x y v u Q I rx ry h
 obtain ⟨i,j,rfl,rfl,q⟩:=h
 obtain ⟨t,rfl⟩:=rx
 obtain ⟨t',rfl⟩:=ry
 exact rule i j t t' s _ _ ⟨.int (g i j),H,I.tok _,⟨_,rfl⟩,q⟩
theorem zux {f:Value->Value->Sem Value} {g:Int->Int->Bool}
  (rule:∀ (i j:Int) (t u:Tok) (s:Shared) (Q:Value->Shared->Prop) (E:Value->Shared->Prop),Q (.bool (g i j)) s->wpAny (model X.prog X.w) X.A (f (.int i t) (.int j u)) Q E s) :
  OpR X f (rI0 fun i j=>.bl (g i j)):=by
 intro pins s σ H x y v u Q I rx ry h
 obtain ⟨i,j,rfl,rfl,q⟩:=h
 obtain ⟨t,rfl⟩:=rx
 obtain ⟨t',rfl⟩:=ry
 exact rule i j t t' s _ _ ⟨.bl (g i j),H,I,rfl,q⟩
def zv4 (i j:Int):Prop:=0 < j/\j < 1073741824
def zv3 (i j:Int):Prop:=0<=j/\j<=1000000/\i.natAbs < 2 ^ 64
def zt2 (i j:Int):Prop:=(-(2 ^ 64) < i/\i < 2 ^ 64)\/(-(2 ^ 64) < j/\j < 2 ^ 64)
theorem zt2.ok {i j:Int} (h:zt2 i j):IntMulOk i j:=by
 rcases h with ⟨h1,h2⟩ | ⟨h1,h2⟩
 ·exact .of_left (intBits_le_64 h1 h2)
 ·exact .of_right (intBits_le_64 h1 h2)
theorem zs6:OpR X (binaryOp .Add) (rI0 fun i j=>.int (i+j)):=zvd fun _ _ _ _ _ _ _ q=>add_int q
theorem zsV:OpR X (binaryOp .Sub) (rI0 fun i j=>.int (i - j)):=zvd fun _ _ _ _ _ _ _ q=>sub_int q
theorem zsZ:OpR X (binaryOp .Mult) (rI zt2 fun i j=>.int (i*j)):=opI fun _ _ _ _ _ _ _ hc q=>mul_int q hc.ok
theorem zqR:OpR X (binaryOp .FloorDiv) (rI zv4 fun i j=>.int (i / j)):=opI fun i j _ _ _ _ _ hc q=>by
 have h1:(0:Int) < j:=hc.1
 have h2:j < 1073741824:=hc.2
 exact floordiv_int (by omega) (by rw [Int.fdiv_eq_ediv_of_nonneg i (by omega)];exact q) (.inl (PyProof.noPylong_small (by omega)))
theorem zs0:OpR X (binaryOp .Mod) (rI (fun _ j=>0 < j) fun i j=>.int (i % j)):=opI fun i j _ _ _ _ _ hc q=>by
 have h1:(0:Int) < j:=hc
 exact mod_int' (by omega) (by rw [Int.fmod_eq_emod_of_nonneg i (by omega)];exact q)
theorem zsX:OpR X (binaryOp .Pow) (rI zv3 fun i j=>.int (i ^ j.toNat)):=opI fun _ _ _ _ _ _ _ hc q=>pow_int_small hc.1 hc.2.1 hc.2.2 q
theorem unI {f:Value->Sem Value} {g:Int->Int}
  (rule:∀ (i:Int) (t:Tok) (s:Shared) (Q:Value->Shared->Prop) (E:Value->Shared->Prop),Q (.int (g i) s.toks) { s with toks:=s.toks+1 }->wpAny (model X.prog X.w) X.A (f (.int i t)) Q E s) :
  UnR X f (rU fun i=>.int (g i)):=by
 intro pins s σ H x v Q I rx h
 obtain ⟨i,rfl,q⟩:=h
 obtain ⟨t,rfl⟩:=rx
 exact rule i t s _ _ ⟨.int (g i),H,I.tok _,⟨_,rfl⟩,q⟩
theorem zsg:UnR X (unaryOp .USub) (rU fun i=>.int (-i)):=unI fun _ _ _ _ _ q=>neg_int q
end
def zug:V->V->Bool
 | .non,.non=>true | .non,.int _=>true | .int _,.non=>true | .non,.bl _=>true | .bl _,.non=>true | .non,.str _=>true | .str _,.non=>true
 | .int _,.int _=>true | .bl _,.bl _=>true | .str _,.str _=>true | .byt _,.byt _=>true
 | .int _,.str _=>true | .str _,.int _=>true | .bl _,.str _=>true | .str _,.bl _=>true
 | _,_=>false
def rEq:R2:=fun x y H Q=>zug x y=true/\Q (.bl (decide (x=y))) H
def rNe:R2:=fun x y H Q=>zug x y=true/\Q (.bl (!decide (x=y))) H
theorem znE {i j:Int}:decide (V.int i=V.int j)=(i==j):=by
 rw [Bool.eq_iff_iff]
 simp
theorem zpR {i j:Bool}:decide (V.bl i=V.bl j)=(i==j):=by
 rw [Bool.eq_iff_iff]
 simp
theorem znD {i j:Str}:decide (V.str i=V.str j)=(i==j):=by
 rw [Bool.eq_iff_iff]
 simp
theorem znF {i j:Array UInt8}:decide (V.byt i=V.byt j)=(i.toList==j.toList):=by
 rw [Bool.eq_iff_iff]
 cases i
 cases j
 simp
section
variable {X:Cx} {a b c:Expr} {ta tb tc:TE} {pos:Pos}
theorem zbs {pins:List (Addr×Obj)} {σ:St} {H:Hp} {s:Shared} {Q:VK} {k k':Bool} (I:Inv X pins σ H s) (q:Q (.bl k) H) (e:k=k'):EP X pins σ Q (.bool k') s:=by
 subst e
 exact ⟨.bl k,H,I,rfl,q⟩
theorem zuw:OpR X (compareOp .Eq) rEq:=by
 intro pins s σ H x y v u Q I rx ry h
 obtain ⟨hs,q⟩:=h
 cases x with
 | non =>
  cases rx
  cases y with
  | non=>cases ry;exact PySem.EqNone.eq_none_none (zbs I q (by simp))
  | bl j=>cases ry;exact PySem.EqNone.eq_none_bool (zbs I q (by simp))
  | int j=>obtain ⟨t',rfl⟩:=ry;exact PySem.EqNone.eq_none_int (zbs I q (by simp))
  | str j=>obtain ⟨t',rfl⟩:=ry;exact PySem.EqNone.eq_none_str (zbs I q (by simp))
  | _=>exact absurd (show false=true from hs) qt
 | bl i =>
  cases rx
  cases y with
  | non=>cases ry;exact PySem.EqNone.eq_bool_none (zbs I q (by simp))
  | bl j=>cases ry;exact eq_bool (zbs I q zpR)
  | str j=>obtain ⟨t',rfl⟩:=ry;exact PySem.EqMixed.eq_bool_str (zbs I q (by simp))
  | _=>exact absurd (show false=true from hs) qt
 | int i =>
  obtain ⟨t,rfl⟩:=rx
  cases y with
  | non=>cases ry;exact PySem.EqNone.eq_int_none (zbs I q (by simp))
  | int j=>obtain ⟨t',rfl⟩:=ry;exact eq_int (zbs I q znE)
  | str j=>obtain ⟨t',rfl⟩:=ry;exact PySem.EqMixed.eq_int_str (zbs I q (by simp))
  | _=>exact absurd (show false=true from hs) qt
 | str i =>
  obtain ⟨t,rfl⟩:=rx
  cases y with
  | non=>cases ry;exact PySem.EqNone.eq_str_none (zbs I q (by simp))
  | bl j=>cases ry;exact PySem.EqMixed.eq_str_bool (zbs I q (by simp))
  | int j=>obtain ⟨t',rfl⟩:=ry;exact PySem.EqMixed.eq_str_int (zbs I q (by simp))
  | str j=>obtain ⟨t',rfl⟩:=ry;exact eq_str (zbs I q znD)
  | _=>exact absurd (show false=true from hs) qt
 | byt i =>
  obtain ⟨t,rfl⟩:=rx
  cases y with
  | byt j=>obtain ⟨t',rfl⟩:=ry;exact PySem.W.eq_bytes (zbs I q znF)
  | _=>exact absurd (show false=true from hs) qt
 | _=>cases y <;> exact absurd (show false=true from hs) qt
theorem zus:OpR X (compareOp .NotEq) rNe:=by
 intro pins s σ H x y v u Q I rx ry h
 obtain ⟨hs,q⟩:=h
 cases x with
 | non =>
  cases rx
  cases y with
  | non=>cases ry;exact PySem.EqNone.ne_none_none (zbs I q (by simp))
  | bl j=>cases ry;exact PySem.EqNone.ne_none_bool (zbs I q (by simp))
  | int j=>obtain ⟨t',rfl⟩:=ry;exact PySem.EqNone.ne_none_int (zbs I q (by simp))
  | str j=>obtain ⟨t',rfl⟩:=ry;exact PySem.EqNone.ne_none_str (zbs I q (by simp))
  | _=>exact absurd (show false=true from hs) qt
 | bl i =>
  cases rx
  cases y with
  | non=>cases ry;exact PySem.EqNone.ne_bool_none (zbs I q (by simp))
  | bl j=>cases ry;exact ne_bool (zbs I q (congrArg not zpR))
  | str j=>obtain ⟨t',rfl⟩:=ry;exact PySem.EqMixed.ne_bool_str (zbs I q (by simp))
  | _=>exact absurd (show false=true from hs) qt
 | int i =>
  obtain ⟨t,rfl⟩:=rx
  cases y with
  | non=>cases ry;exact PySem.EqNone.ne_int_none (zbs I q (by simp))
  | int j=>obtain ⟨t',rfl⟩:=ry;exact ne_int (zbs I q (congrArg not znE))
  | str j=>obtain ⟨t',rfl⟩:=ry;exact PySem.EqMixed.ne_int_str (zbs I q (by simp))
  | _=>exact absurd (show false=true from hs) qt
 | str i =>
  obtain ⟨t,rfl⟩:=rx
  cases y with
  | non=>cases ry;exact PySem.EqNone.ne_str_none (zbs I q (by simp))
  | bl j=>cases ry;exact PySem.EqMixed.ne_str_bool (zbs I q (by simp))
  | int j=>obtain ⟨t',rfl⟩:=ry;exact PySem.EqMixed.ne_str_int (zbs I q (by simp))
  | str j=>obtain ⟨t',rfl⟩:=ry;exact ne_str (zbs I q (congrArg not znD))
  | _=>exact absurd (show false=true from hs) qt
 | byt i =>
  obtain ⟨t,rfl⟩:=rx
  cases y with
  | byt j=>obtain ⟨t',rfl⟩:=ry;exact PySem.W.ne_bytes (zbs I q (congrArg not znF))
  | _=>exact absurd (show false=true from hs) qt
 | _=>cases y <;> exact absurd (show false=true from hs) qt
theorem zut:OpR X (compareOp .Lt) (rI0 fun i j=>.bl (decide (i < j))):=zux fun _ _ _ _ _ _ _ q=>lt_int q
theorem zuu:OpR X (compareOp .LtE) (rI0 fun i j=>.bl (decide (i<=j))):=zux fun _ _ _ _ _ _ _ q=>le_int q
theorem zuv:OpR X (compareOp .Gt) (rI0 fun i j=>.bl (decide (j < i))):=zux fun _ _ _ _ _ _ _ q=>gt_int q
theorem zmK:OpR X (compareOp .Lt) (fun x y H Q=>∃ i j,x=.str i/\y=.str j/\Q (.bl (decide (i.cps.toList < j.cps.toList))) H):=by
 intro pins s σ H x y v u Q I rx ry h
 obtain ⟨i,j,rfl,rfl,q⟩:=h
 obtain ⟨t,rfl⟩:=rx
 obtain ⟨t',rfl⟩:=ry
 exact lt_str (zbs I q rfl)
theorem zs1:OpR X (compareOp .Is) (fun x y H Q=>y=.non/\Q (.bl (decide (x=.non))) H):=by
 intro pins s σ H x y v u Q I rx ry h
 obtain ⟨rfl,q⟩:=h
 cases ry
 refine is_none_gen (zbs I q ?_)
 cases x <;> first
  | (cases rx;rfl)
  | (obtain ⟨t,rfl⟩:=rx;rfl)
theorem zqO:OpR X (compareOp .IsNot) (fun x y H Q=>y=.non/\Q (.bl (!decide (x=.non))) H):=by
 intro pins s σ H x y v u Q I rx ry h
 obtain ⟨rfl,q⟩:=h
 cases ry
 refine isnot_none_gen (zbs I q ?_)
 cases x <;> first
  | (cases rx;rfl)
  | (obtain ⟨t,rfl⟩:=rx;rfl)
theorem OpR.or {f:Value->Value->Sem Value} {r r':R2} (h:OpR X f r) (h':OpR X f r'):OpR X f (fun x y H Q=>r x y H Q\/r' x y H Q):=by
 intro pins s σ H x y v u Q I rx ry q
 rcases q with q | q
 ·exact h pins s σ H x y v u Q I rx ry q
 ·exact h' pins s σ H x y v u Q I rx ry q
theorem za0 (b:Expr) {op:CmpOp} (h:op≠.In:=by decide) (h2:op≠.NotIn:=by decide):behindInMarks op b=false:=by
 have e1:(op==CmpOp.In)=false:=by cases op <;> first | rfl | exact absurd rfl h
 have e2:(op==CmpOp.NotIn)=false:=by cases op <;> first | rfl | exact absurd rfl h2
 cases b <;> simp [behindInMarks,e1,e2]
theorem zqL {op:CmpOp} {r:R2} (ho:OpR X (compareOp op) r) (ha:PE X a ta) (hb:PE X b tb) (hm:behindInMarks op b=false):PE X (.Compare a [op] [b] pos) (tOp r ta tb):=by
 intro pins s σ H Q I h
 exact wpAny_Compare1 (zuO ha hb I h fun v u s2 x y H2 I2 rx ry q=>ho pins s2 σ H2 x y v u Q I2 rx ry q) hm
def zsh (t:TE):TT:=fun σ H Q=>t σ H fun x H'=>∃ k,x=.bl k/\Q k H'
theorem zqw {op:CmpOp} {r:R2} (ho:OpR X (compareOp op) r) (ha:PE X a ta) (hb:PE X b tb) (hm:behindInMarks op b=false):PT X (.Compare a [op] [b] pos) (zsh (tOp r ta tb)):=by
 intro pins s σ H Q I h
 refine wpAny_isTrue_Compare1 (thn (ha pins s σ H _ I h) fun v s1 ⟨x,H1,I1,r1,q1⟩=>thn (hb pins s1 σ H1 _ I1 q1) fun u s2 ⟨y,H2,I2,r2,q2⟩ =>
  thn (ho pins s2 σ H2 x y v u _ I2 r1 r2 q2) fun c s3 ⟨z,H3,I3,r3,k,e,q3⟩=>?_) hm
 subst e
 cases r3
 exact wpAny_truthy_bool ⟨H3,I3,q3⟩
def zmk (r r':R2) (ta tb tc:TE):TE:=fun σ H Q=>ta σ H fun x H1=>tb σ H1 fun y H2=>r x y H2 fun z H3=>∃ k,z=.bl k /\
 (if k=true then tc σ H3 fun w' H4=>r' y w' H4 Q else Q (.bl false) H3)
theorem zoC {op op':CmpOp} {r r':R2} (ho:OpR X (compareOp op) r) (ho':OpR X (compareOp op') r') (ha:PE X a ta) (hb:PE X b tb) (hc:PE X c tc)
  (hm:lastMarks [op,op'] [b,c]=false:=by with_unfolding_all rfl):PE X (.Compare a [op,op'] [b,c] pos) (zmk r r' ta tb tc):=by
 intro pins s σ H Q I h
 refine Compare_chain (thn (ha pins s σ H _ I h) fun v s1 ⟨x,H1,I1,r1,q1⟩=>chain_link (thn (hb pins s1 σ H1 _ I1 q1) fun u s2 ⟨y,H2,I2,r2,q2⟩ =>
  thn (ho pins s2 σ H2 x y v u _ I2 r1 r2 q2) fun d s3 ⟨z,H3,I3,r3,k,e,q3⟩=>?_)) hm
 subst e
 cases r3
 refine wpAny_truthy_bool ?_
 cases k with
 | false=>exact ite_ff ⟨.bl false,H3,I3,rfl,q3⟩
 | true=>exact ite_tt (chain_last (thn (hc pins s3 σ H3 _ I3 q3) fun w' s4 ⟨z',H4,I4,r4,q4⟩=>ho' pins s4 σ H4 y z' u w' Q I4 r2 r4 q4))
theorem zot {op op':CmpOp} {r r':R2} (ho:OpR X (compareOp op) r) (ho':OpR X (compareOp op') r') (ha:PE X a ta) (hb:PE X b tb) (hc:PE X c tc)
  (hm:lastMarks [op,op'] [b,c]=false:=by with_unfolding_all rfl):PT X (.Compare a [op,op'] [b,c] pos) (zsh (zmk r r' ta tb tc)):=by
 intro pins s σ H Q I h
 refine isTrue_chain (thn (ha pins s σ H _ I h) fun v s1 ⟨x,H1,I1,r1,q1⟩=>test_link (thn (hb pins s1 σ H1 _ I1 q1) fun u s2 ⟨y,H2,I2,r2,q2⟩ =>
  thn (ho pins s2 σ H2 x y v u _ I2 r1 r2 q2) fun d s3 ⟨z,H3,I3,r3,k,e,q3⟩=>?_)) hm
 subst e
 cases r3
 refine wpAny_truthy_bool ?_
 cases k with
 | false =>
  obtain ⟨k',e',q'⟩:=q3
  cases e'
  exact ite_ff ⟨H3,I3,q'⟩
 | true =>
  refine ite_tt (test_last (thn (hc pins s3 σ H3 _ I3 q3) fun w' s4 ⟨z',H4,I4,r4,q4⟩=>thn (ho' pins s4 σ H4 y z' u w' _ I4 r2 r4 q4) fun d' s5 ⟨z2,H5,I5,r5,k2,e2,q5⟩=>?_))
  subst e2
  cases r5
  exact wpAny_truthy_bool ⟨H5,I5,q5⟩
def zvW (K:PySem.W.Frag) (x:V) (H:Hp) (k:Bool):Prop :=
 match x with
 | .non=>k=false
 | .bl b=>k=b
 | .int i=>k=(i != 0)
 | .str y=>y.length<=sizeLine/\k=((y.length:Int) != 0)
 | .byt y=>y.size<=sizeLine/\k=((y.size:Int) != 0)
 | .ref p=>(∃ xs,SqL K H p xs/\k=!xs.isEmpty)\/(∃ xs,SqT K H p xs/\k=!xs.isEmpty)\/∃ kvs,H p=some (.dK kvs)/\k=!kvs.isEmpty
 | _=>False
theorem zlV {κ:Type} {kvs:List (κ×V)} {vs:List (κ×Value)} (r:KV kvs vs):(!vs.isEmpty)=!kvs.isEmpty:=by
 cases r <;> rfl
theorem zih {xs:List V} {its:List Value} (r:zbS xs its):(!its.toArray.isEmpty)=!xs.isEmpty:=by
 cases r <;> simp
theorem zie:(sizeLine:Nat) < 2 ^ 63:=by rw [sizeLine_eq];decide
theorem zu2:zvX X (fun x H Q=>∃ k,zvW X.K x H k/\Q k H):=by
 intro pins s σ H x v Q I rx h
 obtain ⟨k,e,q⟩:=h
 have hl:=zie
 have hs:sizeLine=16777216:=sizeLine_eq
 cases x with
 | non =>
  cases rx
  have e':k=false:=e
  subst e'
  exact truthy_none ⟨H,I,q⟩
 | bl b =>
  cases rx
  have e':k=b:=e
  subst e'
  exact wpAny_truthy_bool ⟨H,I,q⟩
 | int i =>
  obtain ⟨t,rfl⟩:=rx
  have e':k=(i != 0):=e
  subst e'
  exact PySem.P.truthy_int ⟨H,I,q⟩
 | str y =>
  obtain ⟨t,rfl⟩:=rx
  obtain ⟨hy,e'⟩:y.length<=sizeLine/\k=((y.length:Int) != 0):=e
  subst e'
  exact PySem.P.truthy_str (by omega) ⟨H,I.tok _,q⟩
 | byt y =>
  obtain ⟨t,rfl⟩:=rx
  obtain ⟨hy,e'⟩:y.size<=sizeLine/\k=((y.size:Int) != 0):=e
  subst e'
  exact PySem.W.truthy_bytes (by omega) ⟨H,I.tok _,q⟩
 | ref p =>
  cases rx
  have e':(∃ xs,SqL X.K H p xs/\k=!xs.isEmpty)\/(∃ xs,SqT X.K H p xs/\k=!xs.isEmpty)\/∃ kvs,H p=some (.dK kvs)/\k=!kvs.isEmpty:=e
  rcases e' with ⟨xs,hx,e'⟩ | ⟨xs,hx,e'⟩ | ⟨kvs,hx,e'⟩
  ·subst e'
   obtain ⟨its,r,pl,hz⟩:=I.list hx
   have hlen:=r.length
   exact wpAny_truthy_list pl.isList (by simp only [qA];omega) ⟨H,I.tok _,by rw [zih r];exact q⟩
  ·subst e'
   obtain ⟨its,r,pl,hz⟩:=I.tuple hx
   have hlen:=r.length
   exact truthy_tuple pl (by simp only [qA];omega) ⟨H,I.tok _,by rw [zih r];exact q⟩
  ·subst e'
   obtain ⟨hz,hS,vs,r,m⟩:kvs.length<=sizeLine/\(p==sysModules)=false/\∃ vs,KV kvs vs/\s.heap.DictOf (zaM X.prog X.w) p vs:=I.hok p _ hx
   have hlen:kvs.length=vs.length:=Paired.length r
   exact wpAny_truthy_dict hS m (by omega) ⟨H,I.tok _,by rw [zlV r];exact q⟩
 | _=>exact (show False from e).elim
theorem zlN:OpR X (binaryOp .Add) (fun x y H Q=>∃ i j,x=.str i/\y=.str j/\i.length+j.length<=sizeLine/\Q (.str (i++j)) H):=by
 intro pins s σ H x y v u Q I rx ry h
 obtain ⟨i,j,rfl,rfl,hz,q⟩:=h
 obtain ⟨t,rfl⟩:=rx
 obtain ⟨t',rfl⟩:=ry
 exact add_str (fun t' tk=>⟨.str (i++j),H,I.tok _,⟨_,rfl⟩,q⟩) hz
theorem zeb {x:V} {us:List Value} (r:zbS [x] us):∃ u,us=[u]/\zca x u:=by
 cases r with
 | cons r1 r2=>cases r2;exact ⟨_,rfl,r1⟩
theorem zp4 {x y:V} {us:List Value} (r:zbS [x,y] us):∃ u w',us=[u,w']/\zca x u/\zca y w':=by
 cases r with
 | cons r1 r2 =>
  cases r2 with
  | cons r3 r4=>cases r4;exact ⟨_,_,rfl,r1,r3⟩
theorem zpk:zdJ X (.builtin "abs") (fun xs H Q=>∃ i,xs=[.int i]/\Q (.int (if i < 0 then -i else i)) H):=by
 intro pins s σ H xs us Q I r h
 obtain ⟨i,rfl,q⟩:=h
 obtain ⟨u,rfl,t,rfl⟩:=zeb r
 exact call_abs_int fun u tk=>⟨.int (if i < 0 then -i else i),H,I.tok _,⟨_,rfl⟩,q⟩
theorem znQ (hc:X.calm=true):zdJ X (.builtin "max") (fun xs H Q=>∃ i j,xs=[.int i,.int j]/\Q (.int (if j > i then j else i)) H):=by
 intro pins s σ H xs us Q I r h
 obtain ⟨i,j,rfl,q⟩:=h
 obtain ⟨u,w',rfl,⟨t,rfl⟩,⟨t',rfl⟩⟩:=zp4 r
 refine max_two_ints (I.ok.hd hc) fun h' tk k=>⟨_,H,I.kept k,?_,q⟩
 by_cases hj:j > i
 ·rw [qU hj,qU hj];exact ⟨_,rfl⟩
 ·rw [qV hj,qV hj];exact ⟨_,rfl⟩
theorem znO (hc:X.calm=true):zdJ X (.builtin "min") (fun xs H Q=>∃ i j,xs=[.int i,.int j]/\Q (.int (if j < i then j else i)) H):=by
 intro pins s σ H xs us Q I r h
 obtain ⟨i,j,rfl,q⟩:=h
 obtain ⟨u,w',rfl,⟨t,rfl⟩,⟨t',rfl⟩⟩:=zp4 r
 refine min_two_ints (I.ok.hd hc) fun h' tk k=>⟨_,H,I.kept k,?_,q⟩
 by_cases hj:j < i
 ·rw [qU hj,qU hj];exact ⟨_,rfl⟩
 ·rw [qV hj,qV hj];exact ⟨_,rfl⟩
theorem znR:zdJ X (.type "int") (fun xs H Q=>(∃ i,xs=[.int i]/\Q (.int i) H)\/∃ k,xs=[.bl k]/\Q (.int (if k then 1 else 0)) H):=by
 intro pins s σ H xs us Q I r h
 rcases h with ⟨i,rfl,q⟩ | ⟨k,rfl,q⟩
 ·obtain ⟨u,rfl,t,rfl⟩:=zeb r
  exact call_int_int ⟨.int i,H,I,⟨_,rfl⟩,q⟩
 ·obtain ⟨u,rfl,r1⟩:=zeb r
  cases r1
  exact call_int_bool ⟨.int (if k then 1 else 0),H,I.tok _,⟨_,rfl⟩,q⟩
def zv0 (K:PySem.W.Frag) (x:V) (H:Hp) (n:Nat):Prop :=
 match x with
 | .str y=>y.length<=sizeLine/\n=y.length
 | .byt y=>y.size<=sizeLine/\n=y.size
 | .ref p=>(∃ xs,SqL K H p xs/\n=xs.length)\/∃ xs,SqT K H p xs/\n=xs.length
 | _=>False
theorem zpj:zdJ X (.builtin "len") (fun xs H Q=>∃ x n,xs=[x]/\zv0 X.K x H n/\Q (.int n) H):=by
 intro pins s σ H xs us Q I r h
 obtain ⟨x,n,rfl,e,q⟩:=h
 obtain ⟨u,rfl,rx⟩:=zeb r
 have hl:=zie
 have hs:sizeLine=16777216:=sizeLine_eq
 cases x with
 | str y =>
  obtain ⟨t,rfl⟩:=rx
  obtain ⟨hy,e'⟩:y.length<=sizeLine/\n=y.length:=e
  subst e'
  exact len_str (by omega) ⟨.int _,H,I.tok _,⟨_,rfl⟩,q⟩
 | byt y =>
  obtain ⟨t,rfl⟩:=rx
  obtain ⟨hy,e'⟩:y.size<=sizeLine/\n=y.size:=e
  subst e'
  exact PySem.W.len_bytes (by omega) ⟨.int _,H,I.tok _,⟨_,rfl⟩,q⟩
 | ref p =>
  cases rx
  have e':(∃ xs,SqL X.K H p xs/\n=xs.length)\/∃ xs,SqT X.K H p xs/\n=xs.length:=e
  rcases e' with ⟨xs,hx,e'⟩ | ⟨xs,hx,e'⟩
  ·subst e'
   obtain ⟨its,r',pl,hz⟩:=I.list hx
   have hlen:=r'.length
   exact Calls.call_len_list pl.isList (by simp only [qA];omega) ⟨.int xs.length,H,I.tok _,⟨_,by simp only [qA];rw [hlen]⟩,q⟩
  ·subst e'
   obtain ⟨its,r',pl,hz⟩:=I.tuple hx
   have hlen:=r'.length
   exact len_tuple pl (by simp only [qA];omega) ⟨.int xs.length,H,I.tok _,⟨_,by simp only [qA];rw [hlen]⟩,q⟩
 | _=>exact (show False from e).elim
end
end L2
namespace L2
open PySem PySem.Spec PyProof.Rows
structure ObjM (h:Heap) (x dx C:Addr) (mA:Str->Option Value):Prop where
 obj:h.get? x=some (PySem.W.instObj C dx)
 ns:h.Ns1 dx mA
 ne:dx≠x
theorem zm6 {h:Heap} {dx:Addr} {mA:Str->Option Value} (n:h.Ns1 dx mA):∃ od,h.get? dx=some od/\∀ name,PySem.W.lookIn name od=some (mA name):=by
 obtain ⟨o,es,ep,ho,hd,hk,_,hm⟩:=n
 refine ⟨o,ho,fun name=>?_⟩
 have e:=hm name
 unfold nsFind findBy at e
 rw [← Array.find?_toList] at e
 unfold PySem.W.lookIn
 rw [hd]
 dsimp only
 split
 ·rename_i y q
  rw [q] at e
  exact congrArg some e
 ·rename_i q
  rw [q] at e
  have a:es.toList.any (·.refKey)=false:=by
   rw [List.any_eq_false]
   intro y hy
   obtain ⟨z,t,hkey⟩:=hk y (Array.mem_toList_iff.mp hy)
   simp [DictEntry.refKey,hkey]
  have a':¬ es.toList.any (·.refKey)=true:=by rw [a];exact qt
  rw [qV a']
  exact congrArg some e
theorem ObjM.look {h:Heap} {x dx C:Addr} {mA:Str->Option Value} (I:ObjM h x dx C mA):∃ od,PySem.W.InstAt h x (PySem.W.instObj C dx) C (some od)/\∀ name,PySem.W.lookIn name od=some (mA name) :=
 let ⟨od,ho,hl⟩:=zm6 I.ns
 ⟨od,⟨I.obj,rfl,rfl,ho⟩,hl⟩
section
variable {prog:Program} {w:World} {A:Around} {E:Value->Shared->Prop} {s:Shared} {K:PySem.W.Frag} {x dx C f:Addr} {mA:Str->Option Value} {name:Str} {v:Value}
theorem zrm {expr:Bool} {Q:Value->Shared->Prop} (X:K.In s.heap) (I:ObjM s.heap x dx C mA) (hg:PySem.W.plainGet K C name=true) (hh:PySem.W.hasDictIn K C=true)
  (ha:PySem.W.findIn K (.ref C) name=some none) (hv:mA name=some v) (hv':PySem.W.handedIn v=true) (h:Q v { s with toks:=s.toks+1 }) :
  wpAny (model prog w) A (getAttr (.ref x) name expr) Q E s:=by
 obtain ⟨od,J,hl⟩:=I.look
 exact PySem.W.get_value X J (PySem.W.plainGet_of hg).1 (PySem.W.findObj_own hh ha rfl (by rw [hl,hv])) hv' h
theorem zoX {pl:Sem Bool} {Q:Value×List Value->Shared->Prop} (X:K.In s.heap) (I:ObjM s.heap x dx C mA) (hg:PySem.W.plainGet K C name=true)
  (hf:PySem.W.findIn K (.ref C) name=some (some (.ref f))) (ht:PySem.W.isFn K (.ref f)=true) (hv:mA name=none) (h:Q (.ref f,[.ref x]) s) :
  wpAny (model prog w) A (getMethod (.ref x) name pl) Q E s:=by
 obtain ⟨od,J,hl⟩:=I.look
 exact PySem.W.method_fn X J (PySem.W.plainGet_of hg).1 (PySem.W.plainGet_of hg).2 hf (beq_iff_eq.mp ht) (by show (PySem.W.lookIn name od).map (·.isSome)=some false;rw [hl,hv];rfl) h
theorem zql {ns:List Str} {Q:Unit->Shared->Prop} (X:K.In s.heap) (I:ObjM s.heap x dx C mA)
  (hs:PySem.W.findIn K (.ref C) "__setattr__"=some (some (.builtin "object.__setattr__"))) (hp:PySem.W.plainOver K C=true) (ht:PySem.W.takerIn K C name=some none) (hh:PySem.W.hasDictIn K C=true)
  (hw:PySem.Within mA ns) (hsz:ns.length<=sizeLine)
  (h:∀ h',ObjM h' x dx C (fun y=>if y=name then some v else mA y)->Heap.SameBut dx s.heap h'->Q () { s with heap:=h',toks:=s.toks+2 }) :
  wpAny (model prog w) A (setAttr (.ref x) name v) Q E s:=by
 obtain ⟨od,J,hl⟩:=I.look
 refine PySem.W.set_plain X J hs (PySem.W.osa_open (s:={ s with toks:=s.toks+1 }) (r:=none) X J hp ht fun b=>?_)
 obtain ⟨cd,hc,hd'⟩:=PySem.W.any_some hh
 have hx:s.heap.get? x=some ⟨.ref C,some dx,.plain,#[]⟩:=I.obj
 refine qx (qz (qx (qx (wpAny_loadPart hx (qx (PySem.W.Looks.here (s:={ s with toks:=s.toks+1 }) (PySem.W.looks_clsIn X hc) ?_))))))
 rw [hd']
 refine qz (a:=some dx) (qx (qz (qx ?_)))
 refine wpAny_nsSet1 (s:={ s with toks:=s.toks+1 }) I.ns fun h' hn2 hs2=>?_
 obtain ⟨oD,esD,epD,hoD,hdD,hcD⟩:=hn2.count (PySem.Within.cons name v hw)
 refine qx (wpAny_lookBehind hoD (by rw [hdD];exact pastItsLine_dict (qK hcD (by rw [qj];omega))) ?_)
 exact qz (h _ ⟨(hs2.2 _ (Ne.symm I.ne)).trans I.obj,hn2,I.ne⟩ hs2)
theorem zoK {R:Result->Shared->Prop} {vs:List Value} {kw:List (Str×Value)} (X:K.In s.heap) (hm:PySem.W.makesIn K C=true)
  (hi:PySem.W.findIn K (.ref C) "__init__"=some (some (.ref f))) (hf:PySem.W.typeIn K (.ref f)=some (.type "function"))
  (h:codeAny (model prog w) (A.under (.builtin "type.__call__" ⟨.ref C::vs,kw⟩)) (.call (.ref f) ⟨.ref (s.heap.objs.size+1)::vs,kw⟩) (PySem.W.InitBack (s.heap.objs.size+1) R)
   { s with heap:=(s.heap.push PySem.W.emptyDict).push (PySem.W.instObj C s.heap.objs.size) }) :
  codeAny (model prog w) A (.call (.ref C) ⟨vs,kw⟩) R s:=by
 obtain ⟨hh,g,d,t,os⟩:=s
 exact PySem.W.make_core (PySem.W.makes_of X hm) (PySem.W.looks_findIn X hi) (fun self=>PySem.W.bind_fn X self hf) (.inl rfl) h
end
def zjg (f:Str) (v:V):List (Str×V)->List (Str×V)
 | []=>[(f,v)]
 | (g,x)::r=>if g=f then (g,v)::r else (g,x)::zjg f v r
theorem zg6 (f g:Str) (v:V):∀ fs:List (Str×V),(zjg f v fs).lookup g=if g=f then some v else fs.lookup g
 | []=>by
  show List.lookup g [(f,v)]=_
  by_cases h:g=f
  ·have hb:(g==f)=true:=beq_iff_eq.mpr h
   simp only [List.lookup,hb,qU h]
  ·have hb:(g==f)=false:=beq_eq_false_iff_ne.mpr h
   simp only [List.lookup,hb,qV h]
 | (k,x)::r=>by
  have ih:=zg6 f g v r
  rw [show zjg f v ((k,x)::r)=(if k=f then (k,v)::r else (k,x)::zjg f v r) from rfl]
  by_cases hk:k=f
  ·rw [qU hk]
   by_cases h:g=k
   ·have hb:(g==k)=true:=beq_iff_eq.mpr h
    simp only [List.lookup,hb,qU (h.trans hk)]
   ·have hb:(g==k)=false:=beq_eq_false_iff_ne.mpr h
    simp only [List.lookup,hb,qV (fun e:g=f=>h (e.trans hk.symm))]
  ·rw [qV hk]
   by_cases h:g=k
   ·have hb:(g==k)=true:=beq_iff_eq.mpr h
    simp only [List.lookup,hb,qV (fun e:g=f=>hk (h.symm.trans e))]
   ·have hb:(g==k)=false:=beq_eq_false_iff_ne.mpr h
    simp only [List.lookup,hb]
    exact ih
theorem zg9 (f:Str) (v:V):∀ fs:List (Str×V),f∈(zjg f v fs).map (·.1)/\∀ g,g∈fs.map (·.1)->g∈(zjg f v fs).map (·.1)
 | []=>⟨by simp [zjg],fun g h=>by simp at h⟩
 | (k,x)::r=>by
  obtain ⟨i1,i2⟩:=zg9 f v r
  rw [show zjg f v ((k,x)::r)=(if k=f then (k,v)::r else (k,x)::zjg f v r) from rfl]
  by_cases hk:k=f
  ·rw [qU hk]
   subst hk
   exact ⟨by simp,fun g h=>by simpa using h⟩
  ·rw [qV hk]
   refine ⟨?_,fun g h=>?_⟩
   ·rw [qp]
    exact qi _ i1
   ·rw [qp] at h ⊢
    rcases List.mem_cons.mp h with e | e
    ·exact List.mem_cons.mpr (.inl e)
    ·exact qi _ (i2 g e)
theorem zg8 (f:Str) (v:V):∀ fs:List (Str×V),(zjg f v fs).length<=fs.length+1
 | []=>by simp [zjg]
 | (k,x)::r=>by
  have ih:=zg8 f v r
  rw [show zjg f v ((k,x)::r)=(if k=f then (k,v)::r else (k,x)::zjg f v r) from rfl]
  by_cases hk:k=f
  ·rw [qU hk,qj,qj];omega
  ·rw [qV hk,qj,qj];omega
theorem zim.some_of {v:V} {o:Option Value} (r:zim (some v) o):∃ u,o=some u/\zca v u:=by
 cases o with
 | none=>exact (show False from r).elim
 | some u=>exact ⟨u,rfl,r⟩
theorem zim.none_of {o:Option Value} (r:zim none o):o=none:=by
 cases o with
 | none=>rfl
 | some u=>exact (show False from r).elim
theorem znm {v:V} {u:Value} (r:zca v u):PySem.W.handedIn u=true:=by
 cases v with
 | non=>cases (show u=Value.none from r);rfl
 | bl b=>cases (show u=Value.bool b from r);rfl
 | int i=>obtain ⟨t,e⟩:=(show ∃ t,u=Value.int i t from r);cases e;rfl
 | str x=>obtain ⟨t,e⟩:=(show ∃ t,u=Value.str x t from r);cases e;rfl
 | byt b=>obtain ⟨t,e⟩:=(show ∃ t,u=Value.bytes b t from r);cases e;rfl
 | flt b=>obtain ⟨t,e⟩:=(show ∃ t,u=Value.float b t from r);cases e;rfl
 | ref a=>cases (show u=Value.ref a from r);rfl
 | ty n=>cases (show u=Value.type n from r);rfl
section
variable {P:Program} {w:World} {H H':Hp} {h h':Heap} {a C dx:Addr} {fs fs':List (Str×V)}
theorem ziN (hok:HOk P w H h) (e:H a=some (.ins C dx fs)):∃ mA,ObjM h a dx C mA/\(∀ f,zim (fs.lookup f) (mA f))/\PySem.Within mA (fs.map (·.1))/\fs.length<=1000/\H dx=some (.own a):=by
 obtain ⟨d,z,ne,ob,mA,n,r,q⟩:=(show zcn P w H h a (.ins C dx fs) from hok a _ e)
 exact ⟨mA,⟨ob,n,ne⟩,r,q,z,d⟩
end
structure Cls (K:PySem.W.Frag) (C:Addr):Prop where
 pg:PySem.W.plainGet K C Str.empty=true
 hd:PySem.W.hasDictIn K C=true
 po:PySem.W.plainOver K C=true
 sa:PySem.W.findIn K (.ref C) "__setattr__"=some (some (.builtin "object.__setattr__"))
theorem Cls.get {K:PySem.W.Frag} {C:Addr} (c:Cls K C) (f:Str):PySem.W.plainGet K C f=true:=c.pg
def zeY (K:PySem.W.Frag) (C:Addr) (f:Str):Prop:=PySem.W.findIn K (.ref C) f=some none
theorem zeY.taker {K:PySem.W.Frag} {C:Addr} {f:Str} (n:zeY K C f):PySem.W.takerIn K C f=some none:=by
 unfold PySem.W.takerIn
 rw [show PySem.W.findIn K (.ref C) f=some none from n]
 rfl
structure Con (K:PySem.W.Frag) (C:Addr) (f:Str) (v:V) (u:Value):Prop where
 at_:PySem.W.findIn K (.ref C) f=some (some u)
 rel:zca v u
 get:PySem.W.specialIn K u "__get__"=some none
 cp:PySem.W.copiedNames.contains f=false
structure Meth (K:PySem.W.Frag) (C:Addr) (m:Str) (f:Addr):Prop where
 at_:PySem.W.findIn K (.ref C) m=some (some (.ref f))
 fn:PySem.W.isFn K (.ref f)=true
 kp:PySem.W.keepIn K (.ref f)=true
section
variable {X:Cx} {pins:List (Addr×Obj)} {σ:St} {H:Hp} {s:Shared} {a C dx:Addr} {fs:List (Str×V)} {f:Str} {v:V} {A:Around} {E:Value->Shared->Prop}
theorem zlW {b:Bool} {Q:Value->Shared->Prop} (I:Inv X pins σ H s) (e:H a=some (.ins C dx fs)) (c:Cls X.K C) (n:zeY X.K C f) (l:fs.lookup f=some v)
  (h:∀ u s',Inv X pins σ H s'->zca v u->Q u s'):wpAny (model X.prog X.w) A (getAttr (.ref a) f b) Q E s:=by
 obtain ⟨mA,O,r,_,_,_⟩:=ziN I.hok e
 obtain ⟨u,hu,ru⟩:=zim.some_of (v:=v) (o:=mA f) (by rw [← l];exact r f)
 exact zrm I.kIn O (c.get f) c.hd n hu (znm ru) (h u _ (I.tok _) ru)
theorem zf1 {m:Str} {g:Addr} {pl:Sem Bool} {Q:Value×List Value->Shared->Prop} (I:Inv X pins σ H s) (e:H a=some (.ins C dx fs)) (c:Cls X.K C) (k:Meth X.K C m g) (l:fs.lookup m=none)
  (h:Q (.ref g,[.ref a]) s):wpAny (model X.prog X.w) A (getMethod (.ref a) m pl) Q E s:=by
 obtain ⟨mA,O,r,_,_,_⟩:=ziN I.hok e
 have hn:mA m=none:=zim.none_of (by rw [← l];exact r m)
 exact zoX I.kIn O (c.get m) k.at_ k.fn hn h
theorem zlE {y:V} {u:Value} {Q:Unit->Shared->Prop} (I:Inv X pins σ H s) (e:H a=some (.ins C dx fs)) (c:Cls X.K C) (n:zeY X.K C f) (hl:fs.length < 1000) (ry:zca y u)
  (h:∀ s',Inv X pins σ (upd H a (.ins C dx (zjg f y fs))) s'->Q () s'):wpAny (model X.prog X.w) A (setAttr (.ref a) f u) Q E s:=by
 obtain ⟨mA,O,r,wi,_,ho⟩:=ziN I.hok e
 have hz:(fs.map (·.1)).length<=sizeLine:=by rw [qg,sizeLine_eq];omega
 refine zql I.kIn O c.sa c.po n.taker c.hd wi hz fun h' O' sb=>h _ ?_
 have hd:∃ o,h'.get? dx=some o:=let ⟨o,_,_,e',_⟩:=O'.ns;⟨o,e'⟩
 refine I.write (x:=a) (e:=dx) (by rw [e];exact True.intro) (.inr ho) (fun b q hb z=>(sb.2 b hb).trans z) hd ?_
 refine ⟨by rw [zap O.ne];exact ho,?_,O.ne,O'.obj,_,O'.ns,fun g=>?_,fun g hg=>?_⟩
 ·have:=zg8 f y fs;omega
 ·show zim ((zjg f y fs).lookup g) (if g=f then some u else mA g)
  rw [zg6]
  by_cases q:g=f
  ·rw [qU q,qU q];exact ry
  ·rw [qV q,qV q];exact r g
 ·by_cases q:g=f
  ·rw [q];exact (zg9 f y fs).1
  ·refine (zg9 f y fs).2 g (wi g fun z=>hg ?_)
   show (if g=f then some u else mA g)=none
   rw [qV q];exact z
theorem Inv.made (I:Inv X pins σ H s):Inv X pins σ (upd (upd H s.heap.objs.size (.own (s.heap.objs.size+1))) (s.heap.objs.size+1) (.ins C s.heap.objs.size []))
  { s with heap:=(s.heap.push PySem.W.emptyDict).push (PySem.W.instObj C s.heap.objs.size) }:=by
 have e1:(s.heap.push PySem.W.emptyDict).get? s.heap.objs.size=some PySem.W.emptyDict:=qF s.heap rfl
 have e2:((s.heap.push PySem.W.emptyDict).push (PySem.W.instObj C s.heap.objs.size)).get? (s.heap.objs.size+1)=some (PySem.W.instObj C s.heap.objs.size):=by
  have:=qF (s.heap.push PySem.W.emptyDict) (o:=PySem.W.instObj C s.heap.objs.size) rfl
  rwa [Heap.size_push] at this
 have e3:(s.heap.push PySem.W.emptyDict).Ns s.heap.objs.size (fun _=>none):=⟨PySem.W.emptyDict,#[],_,e1,rfl,(fun e he=>absurd he (by simp)),fun _=>rfl⟩
 have I1:=I.laid (a:=s.heap.objs.size) (o:=.own (s.heap.objs.size+1)) (h':=s.heap.push PySem.W.emptyDict) (t':=s.toks) (fun b u q=>qu _ q) (qw _) ⟨_,e1⟩
 refine I1.laid (a:=s.heap.objs.size+1) (o:=.ins C s.heap.objs.size []) (t':=s.toks) (fun b u q=>qu _ q) (Nat.le_of_eq (Heap.size_push _ _)) ?_
 have ne:s.heap.objs.size≠s.heap.objs.size+1:=qB (Nat.lt_succ_self _)
 refine ⟨by rw [zap ne,zav],Nat.zero_le _,ne,e2,fun _=>none,(Heap.Ns1.of_empty e3).at fun o q=>qu _ q,fun _=>True.intro,fun y hy=>absurd rfl hy⟩
theorem zrU {prog:Program} {w:World} {env:Env} {e:Expr} {f:Str} {pos:Pos} {s:Shared} {Q:Value->Shared->Prop} (hb:attributeBase e f env (eval e env)=eval e env)
  (h:wpAny (model prog w) A (eval e env) (fun o s₁=>wpAny (model prog w) A (getAttr o f true) Q E s₁) E s):wpAny (model prog w) A (eval (.Attribute e f pos) env) Q E s :=
 Attribute_any_ h (by rw [arm_eval_Attribute,hb])
end
def zvz (K:PySem.W.Frag) (ta:TE) (f:Str):TE:=fun σ H Q=>ta σ H fun x H1=>∃ a C dx fs v,x=.ref a/\H1 a=some (.ins C dx fs)/\Cls K C/\zeY K C f/\fs.lookup f=some v/\Q v H1
def zvE (K:PySem.W.Frag) (ta tv:TE) (f:Str):TS:=fun D σ H=>tv σ H fun y H1=>ta σ H1 fun x H2=>∃ a C dx fs,x=.ref a/\H2 a=some (.ins C dx fs)/\Cls K C/\zeY K C f/\fs.length < 1000 /\
 D.nx σ (upd H2 a (.ins C dx (zjg f y fs)))
section
variable {X:Cx} {o e value:Expr} {f:Str} {pos pos' tpos:Pos} {ta tv:TE}
theorem zpD (he:PE X e ta) (hb:attributeBase e f X.env (eval e X.env)=eval e X.env):PE X (.Attribute e f pos) (zvz X.K ta f):=by
 intro pins s σ H Q I h
 refine zrU hb (thn (he pins s σ H _ I h) fun u s1 ⟨x,H1,I1,rx,a,C,dx,fs,v,ex,ea,c,n,l,q⟩=>?_)
 subst ex
 obtain rfl:u=Value.ref a:=rx
 exact zlW I1 ea c n l fun u' s2 I2 ru=>⟨v,H1,I2,ru,q⟩
theorem zpB (ha:PE X o ta) (hv:PE X value tv) (hs:swapsWith value (some (.Attribute o f pos')) pos.line X.env=pure false):PS X (.Assign [.Attribute o f pos'] value pos) (zvE X.K ta tv f):=by
 intro pins s σ H D I h
 refine plainObj_wpAny_Assign_Attribute (thn (hv pins s σ H _ I h) fun u s1 ⟨y,H1,I1,ry,q⟩=>thn (ha pins s1 σ H1 _ I1 q) fun ov s2 ⟨x,H2,I2,rx,a,C,dx,fs,ex,ea,c,n,l,q2⟩=>?_) hs
 subst ex
 obtain rfl:ov=Value.ref a:=rx
 exact zlE I2 ea c n l ry fun s3 I3=>⟨σ,_,I3,q2⟩
theorem zq6 {pl:Sem Bool} {m:Str} {apos:Pos} {args:List Expr} {pins:List (Addr×Obj)} {s:Shared} {σ:St} {H:Hp} {Q:Value->Shared->Prop} {te:TE} (he:PE X e te) (I:Inv X pins σ H s)
  (h:te σ H fun x H1=>∃ a C dx fs g,x=.ref a/\H1 a=some (.ins C dx fs)/\Cls X.K C/\Meth X.K C m g/\fs.lookup m=none /\
   ∀ s1,Inv X pins σ H1 s1->wpAny (model X.prog X.w) X.A (callWith pos (.ref g) [.ref a] (backTo pos (starEach args X.env)) (backToKw pos (keywordEach [] X.env))) Q X.xe s1)
  (ht:eval (.Call (.Attribute e m apos) args [] pos) X.env=(do
   let ov ← eval e X.env
   standAt apos.atName
   let (f,first) ← holding [ov] (getMethod ov m pl)
   callWith pos f first (backTo pos (starEach args X.env)) (backToKw pos (keywordEach [] X.env)))) :
  wpAny (model X.prog X.w) X.A (eval (.Call (.Attribute e m apos) args [] pos) X.env) Q X.xe s:=by
 refine PySem.W.methodCall_KW (pl:=pl) (thn (he pins s σ H _ I h) fun u s1 ⟨x,H1,I1,rx,a,C,dx,fs,g,ex,ea,c,k,l,q⟩=>?_) ht
 subst ex
 obtain rfl:u=Value.ref a:=rx
 exact zf1 I1 ea c k l (q s1 I1)
end
section
variable {X:Cx} {pins:List (Addr×Obj)} {σ:St} {H:Hp} {s:Shared} {A:Around} {E:Value->Shared->Prop} {Q:Value->Shared->Prop} {c:Value} {b:Bool}
inductive TyOf (K:PySem.W.Frag) (H:Hp):V->Value->Prop where
 | non:TyOf K H .non (.type "NoneType")
 | bl (x:Bool):TyOf K H (.bl x) (.type "bool")
 | int (i:Int):TyOf K H (.int i) (.type "int")
 | str (x:Str):TyOf K H (.str x) (.type "str")
 | flt (x:UInt64):TyOf K H (.flt x) (.type "float")
 | lst {a:Addr} {xs:List V} (e:H a=some (.lst xs)):TyOf K H (.ref a) (.type "list")
 | frz {a:Addr} {o:Obj} {xs:List V} (e:H a=some (.frz o (.lst xs))):TyOf K H (.ref a) (.type "list")
 | tup {a:Addr} {xs:List V} (e:H a=some (.tup xs)):TyOf K H (.ref a) (.type "tuple")
 | dK {a:Addr} {kvs:List (Key×V)} (e:H a=some (.dK kvs)):TyOf K H (.ref a) (.type "dict")
 | dT {a:Addr} {kvs:List (List Key×V)} (e:H a=some (.dT kvs)):TyOf K H (.ref a) (.type "dict")
 | ins {a C dx:Addr} {fs:List (Str×V)} (e:H a=some (.ins C dx fs)) (cl:Cls K C) (ha:PySem.W.findIn K (.ref C) "__class__"=some (some (.builtin "object.__class__")))
   (hn:PySem.W.specialIn K (.builtin "object.__class__") "__get__"=some (some (.builtin "getset_descriptor.__get__"))) (htk:PySem.W.takesIn K (.builtin "object.__class__")=some true)
   (hm:PySem.W.mroIn K C (.type "object")=some true):TyOf K H (.ref a) (.ref C)
theorem zni {x:V} {u t:Value} (I:Inv X pins σ H s) (rx:zca x u) (ty:TyOf X.K H x t) (e:PySem.W.kitOne X.K t c=some b) (h:∀ tk,Q (.bool b) { s with toks:=tk }) :
  wpAny (model X.prog X.w) A (call (.builtin "isinstance") [u,c]) Q E s:=by
 cases ty with
 | non=>cases (show u=Value.none from rx);exact PySem.W.kia_one PySem.W.kitx_none I.kIn True.intro e (fun z=>nomatch z) h
 | bl y=>cases (show u=Value.bool y from rx);exact PySem.W.kia_one PySem.W.kitx_bool I.kIn True.intro e (fun z=>nomatch z) h
 | int i=>obtain ⟨t,q⟩:=(show ∃ t,u=Value.int i t from rx);cases q;exact PySem.W.kia_one PySem.W.kitx_int I.kIn True.intro e (fun z=>nomatch z) h
 | str y=>obtain ⟨t,q⟩:=(show ∃ t,u=Value.str y t from rx);cases q;exact PySem.W.kia_one PySem.W.kitx_str I.kIn True.intro e (fun z=>nomatch z) h
 | flt y=>obtain ⟨t,q⟩:=(show ∃ t,u=Value.float y t from rx);cases q;exact PySem.W.kia_one PySem.W.kitx_float I.kIn True.intro e (fun z=>nomatch z) h
 | @lst a xs ea =>
  cases (show u=Value.ref a from rx)
  obtain ⟨_,_,n,_,h1⟩:=(show zcn X.prog X.w H s.heap a (.lst xs) from I.hok a _ ea)
  exact PySem.W.kia_one PySem.W.kitx_list I.kIn ⟨_,h1,rfl⟩ e (fun z=>nomatch z) h
 | @frz a ob xs ea =>
  cases (show u=Value.ref a from rx)
  obtain ⟨_,_,_,n,_,h1⟩:=(show zcn X.prog X.w H s.heap a (.frz ob (.lst xs)) from I.hok a _ ea)
  exact PySem.W.kia_one PySem.W.kitx_list I.kIn ⟨_,h1,rfl⟩ e (fun z=>nomatch z) h
 | @tup a xs ea =>
  cases (show u=Value.ref a from rx)
  obtain ⟨_,_,_,p⟩:=(show zcn X.prog X.w H s.heap a (.tup xs) from I.hok a _ ea)
  obtain ⟨o,h1,h2,_⟩:=p
  exact PySem.W.kia_one PySem.W.kitx_tuple I.kIn ⟨o,h1,h2⟩ e (fun z=>nomatch z) h
 | @dK a kvs ea =>
  cases (show u=Value.ref a from rx)
  obtain ⟨_,_,vs,_,p⟩:=(show zcn X.prog X.w H s.heap a (.dK kvs) from I.hok a _ ea)
  obtain ⟨o,es,ep,h1,h2,_⟩:=p
  exact PySem.W.kia_one PySem.W.kitx_dict I.kIn ⟨o,h1,h2.1⟩ e (fun z=>nomatch z) h
 | @dT a kvs ea =>
  cases (show u=Value.ref a from rx)
  obtain ⟨_,_,xs,_,o,es,ep,h1,h2,_⟩:=(show zcn X.prog X.w H s.heap a (.dT kvs) from I.hok a _ ea)
  exact PySem.W.kia_one PySem.W.kitx_dict I.kIn ⟨o,h1,h2.1⟩ e (fun z=>nomatch z) h
 | @ins a C dx fs ea cl ha hn htk hm =>
  cases (show u=Value.ref a from rx)
  obtain ⟨mA,O,_⟩:=ziN I.hok ea
  obtain ⟨od,J,_⟩:=O.look
  exact PySem.W.kia_one (PySem.W.kitx_own (cl.get _) cl.hd ha hn htk hm) I.kIn J e (fun z=>nomatch z) h
end
end L2
namespace L2
open PySem PySem.Spec PyProof.Rows
structure Room (k:Nat) (A:Around):Prop where
 hd:A.handled=none
 dp:A.depth+3*k+5 < recursionLimit
 un:A.units+16*k+200 < cLine
theorem Room.mono {j k:Nat} {A:Around} (r:Room k A) (h:j<=k):Room j A:=⟨r.hd,by have:=r.dp;omega,by have:=r.un;omega⟩
theorem Room.deeper {k:Nat} {A:Around} (r:Room (k+1) A) (env:Env):Room k (A.deeper env) :=
 ⟨r.hd,by have:=r.dp;show A.depth+1+3*k+5 < _;omega,by have:=r.un;show A.units+3+16*k+200 < _;omega⟩
theorem zlQ {A:Around} {C:Addr} {us:List Value} {kw:List (Str×Value)}:(A.under (.builtin "type.__call__" ⟨.ref C::us,kw⟩)).depth=A.depth+1:=by
 first | rfl | simp [Around.under,Code.weight,Code.isCreation,Code.isGuard,Code.isCaller,Code.frames,Code.isFrame,guardIds]
theorem zlP {A:Around} {C:Addr} {us:List Value} {kw:List (Str×Value)}:(A.under (.builtin "type.__call__" ⟨.ref C::us,kw⟩)).units=A.units+1:=by
 first | rfl | simp [Around.under,Code.cUnits,Code.frames,Code.isFrame]
theorem Room.make {k:Nat} {A:Around} (r:Room (k+1) A) (C:Addr) (us:List Value) (kw:List (Str×Value)):Room k (A.under (.builtin "type.__call__" ⟨.ref C::us,kw⟩)) :=
 ⟨r.hd,by have:=r.dp;rw [zlQ];omega,by have:=r.un;rw [zlP];omega⟩
theorem Room.depth {k:Nat} {A:Around} (r:Room k A):A.depth < recursionLimit:=by have:=r.dp;omega
def zu4:TA:=fun _ H Q=>Q [] H
def zub (ta:TE) (tr:TA):TA:=fun σ H Q=>ta σ H fun x H1=>tr σ H1 fun xs H2=>Q (x::xs) H2
section
variable {X:Cx} {e:Expr} {es:List Expr} {te:TE} {t:TA} {pos:Pos}
theorem zfA:PA X [] zu4:=fun _ _ _ _ H Q I h=>Calls.spliced_nil ⟨[],H,I,.nil,h⟩
theorem zdV (ha:PE X e te) (hr:PA X es t) (hs:starEach (e::es) X.env=(false,eval e X.env)::starEach es X.env:=by rfl):PA X (e::es) (zub te t):=by
 intro pos pins s σ H Q I h
 rw [hs]
 show wpAny _ _ (spliced ((false,eval e X.env)::backTo pos (starEach es X.env))) _ _ s
 refine Calls.spliced_cons (thn (ha pins s σ H _ I h) fun u s1 ⟨x,H1,I1,r1,q1⟩=>?_)
 exact thn (hr pos pins s1 σ H1 _ I1 q1) fun us s2 ⟨xs,H2,I2,r2,q2⟩=>⟨x::xs,H2,I2,.cons r1 r2,q2⟩
def zvs (t:TA):TE:=fun σ H Q=>t σ H fun xs H1=>xs.length<=sizeLine/\∀ p,H1 p=none->Q (.ref p) (upd H1 p (.tup xs))
def zvw (t:TA):TE:=fun σ H Q=>t σ H fun xs H1=>xs.length<=sizeLine/\∀ p,H1 p=none->Q (.ref p) (upd H1 p (.lst xs))
theorem zsM {x1} (h:PA X es t):PE X (.Tuple es x1 pos) (zvs t):=by
 intro pins s σ H Q I hq
 refine wpAny_Tuple_spliced (thn (h pos pins s σ H _ I hq) fun us s1 ⟨xs,H1,I1,r,z,q⟩=>⟨by rw [← r.length];exact z,?_⟩)
 have hf:H1 s1.heap.objs.size=none:=I1.hok.fresh (qw _)
 refine ⟨.ref s1.heap.objs.size,upd H1 s1.heap.objs.size (.tup xs),I1.laid (t':=s1.toks) (fun b u e=>qu _ e) (qw _) ?_,rfl,q _ hf⟩
 exact ⟨z,us,r,⟨_,qF _ rfl,rfl,_,rfl⟩⟩
theorem zsR (h:PA X es t):PE X (.List es pos) (zvw t):=by
 intro pins s σ H Q I hq
 refine wpAny_List_spliced (thn (h pos pins s σ H _ I hq) fun us s1 ⟨xs,H1,I1,r,z,q⟩=>⟨by rw [← r.length];exact z,?_⟩)
 have hf:H1 s1.heap.objs.size=none:=I1.hok.fresh (qw _)
 refine ⟨.ref s1.heap.objs.size,upd H1 s1.heap.objs.size (.lst xs),I1.laid (t':=s1.toks) (fun b u e=>qu _ e) (qw _) ?_,rfl,q _ hf⟩
 exact ⟨z,us,0,r,qF _ rfl⟩
end
abbrev Sp:=List V->Hp->VK->XK->Prop
abbrev CXT:=List Env->Hp->Shared->XK->Value->Shared->Prop
structure Env0 (P:Program) (w:World) (K:PySem.W.Frag) (mg:Str->Option Value) (base:Heap) (A:Around) (outer:List Env) (s:Shared) (H:Hp):Prop where
 frames:A.frames=some outer
 mod:Mod K mg base
 bs:∀ b o,base.get? b=some o->s.heap.get? b=some o/\H b=none
 bsz:base.objs.size<=s.heap.objs.size
 funs:s.heap.FunFrames base outer
 frf:∀ b∈frs outer,H b=none
 hok:HOk P w H s.heap
 bare:AllBare s.gens
def CE (outer:List Env) (P:Program) (w:World) (H:Hp) (s:Shared) (Q:VK) (u:Value) (s':Shared):Prop :=
 ∃ v H',s'.os=s.os/\AllBare s'.gens/\Un (frs outer) [] H H' s.heap s'.heap/\HOk P w H' s'.heap/\zca v u/\Q v H'
def CR (CX:CXT) (outer:List Env) (P:Program) (w:World) (H:Hp) (s:Shared) (Q:VK) (E:XK) (r:Result) (s':Shared):Prop :=
 match r with
 | .ok (.ret u)=>CE outer P w H s Q u s'
 | .ok _=>False
 | .error e=>CX outer H s E e s'
structure FnOk (P:Program) (w:World) (K:PySem.W.Frag) (mg:Str->Option Value) (base:Heap) (CX:CXT) (k:Nat) (f:Addr) (fd:FuncData) (ps:List Str) (sp:Sp):Prop where
 len:∀ vs H Q E,sp vs H Q E->vs.length=ps.length
 run:∀ (A:Around) (outer:List Env) (s:Shared) (H:Hp) (args:Args) (us:List Value) (vs:List V) (Q:VK) (E:XK),Room k A->Env0 P w K mg base A outer s H->BindsTo s fd args (ps.zip us)->zbS vs us->sp vs H Q E ->
  codeAny (model P w) A (.call (.ref f) args) (CR CX outer P w H s Q E) s
theorem FnOk.imp {P:Program} {w:World} {K:PySem.W.Frag} {mg:Str->Option Value} {base:Heap} {CX:CXT} {k:Nat} {f:Addr} {fd:FuncData} {ps:List Str} {sp sp':Sp} (F:FnOk P w K mg base CX k f fd ps sp)
  (h:∀ vs H Q E,sp' vs H Q E->sp vs H Q E):FnOk P w K mg base CX k f fd ps sp' :=
 ⟨fun vs H Q E q=>F.len vs H Q E (h _ _ _ _ q),fun A outer s H args us vs Q E hr he hb hv hs=>F.run A outer s H args us vs Q E hr he hb hv (h _ _ _ _ hs)⟩
theorem Env0.make {P:Program} {w:World} {K:PySem.W.Frag} {mg:Str->Option Value} {base:Heap} {A:Around} {outer:List Env} {s:Shared} {H:Hp} (e:Env0 P w K mg base A outer s H) (C:Addr) (us:List Value) (kw:List (Str×Value)) :
  Env0 P w K mg base (A.under (.builtin "type.__call__" ⟨.ref C::us,kw⟩)) outer s H:=⟨by first | exact e.frames | (simpa [Around.under,Code.envs,Code.isFrame,pushEnvs] using e.frames),e.mod,e.bs,e.bsz,e.funs,e.frf,e.hok,e.bare⟩
section
variable {X:Cx} {pins:List (Addr×Obj)} {σ:St} {H:Hp} {s s':Shared}
theorem Inv.env0 (I:Inv X pins σ H s):Env0 X.prog X.w X.K X.mg X.base X.A X.stack s H :=
 ⟨I.ok.frames,I.ok.mod,I.bs,qK I.ok.bsz I.sz,I.stack,I.stkFree,I.hok,I.bare⟩
theorem Inv.after {Q:VK} {u:Value} (I:Inv X pins σ H s) (h:CE X.stack X.prog X.w H s Q u s'):EP X pins σ Q u s':=by
 obtain ⟨v,H',os,bare,un,hok,r,q⟩:=h
 obtain ⟨hh,g,d,t,os'⟩:=s'
 obtain rfl:os'=s.os:=os
 exact ⟨v,H',I.call (h':=hh) (g':=g) (d':=d) (t':=t) (ch:=[]) un hok bare (fun b z=>absurd z (by simp)),r,q⟩
end
def zuc (sp:Sp) (dvs:List V) (E:XK) (t:TA):TE:=fun σ H Q=>t σ H fun vs H1=>sp (vs++dvs) H1 Q E
def zsi (C:Addr) (m:Str) (sp:Sp) (dvs:List V) (E:XK) (ta:TE) (t:TA):TE:=fun σ H Q=>ta σ H fun x H1=>∃ a dx fs,x=.ref a/\H1 a=some (.ins C dx fs)/\fs.lookup m=none /\
 t σ H1 fun vs H2=>sp (x::(vs++dvs)) H2 Q E
def zt8 (C:Addr) (sp:Sp) (dvs:List V) (E:XK) (t:TA):TE:=fun σ H Q=>t σ H fun vs H1=>∀ x dx,H1 x=none->H1 dx=none->dx≠x ->
 sp (.ref x::(vs++dvs)) (upd (upd H1 dx (.own x)) x (.ins C dx [])) (fun v H2=>v=.non/\Q (.ref x) H2) E
def zdF (K:PySem.W.Frag) (fd:FuncData) (ps:List Str) (ds:List Value):Prop :=
 ∀ (s:Shared) (us:List Value),K.In s.heap->(us++ds).length=ps.length->BindsTo s fd ⟨us,[]⟩ (ps.zip (us++ds))
theorem zdF.all {K:PySem.W.Frag} {fd:FuncData} {ps:List Str} (h:∀ us:List Value,us.length=ps.length->bindArgs fd ⟨us,[]⟩=pure (ps.zip us)):zdF K fd ps []:=fun s us _ hl=>by
 rw [List.append_nil] at hl ⊢
 exact .of_eq (h us hl)
def zhu (CX:CXT) (X:Cx) (E:XK):Prop:=∀ (pins:List (Addr×Obj)) (σ:St) (H:Hp) (s:Shared) (e:Value) (s':Shared),Inv X pins σ H s->CX X.stack H s E e s'->X.xe e s'
section
variable {X:Cx} {CX:CXT} {k:Nat} {f C:Addr} {fd:FuncData} {ps:List Str} {sp:Sp} {dvs:List V} {ds:List Value} {E:XK} {x m:Str} {p pos apos:Pos} {e o:Expr} {es:List Expr} {ta:TE} {t:TA}
theorem zmu {pins:List (Addr×Obj)} {σ:St} {H:Hp} {s:Shared} {Q:VK} {us:List Value} {vs:List V} (F:FnOk X.prog X.w X.K X.mg X.base CX k f fd ps sp) (hr:Room k X.A) (hb:zdF X.K fd ps ds) (hd:zbS dvs ds) (hx:zhu CX X E)
  (I:Inv X pins σ H s) (r:zbS vs us) (h:sp (vs++dvs) H Q E):wpAny (model X.prog X.w) X.A (call (.ref f) us) (EP X pins σ Q) X.xe s:=by
 have r2:zbS (vs++dvs) (us++ds):=r.append hd
 have hl:(us++ds).length=ps.length:=by rw [← r2.length];exact F.len _ _ _ _ h
 refine wpAny_call (codeAny_mono (F.run X.A X.stack s H ⟨us,[]⟩ (us++ds) (vs++dvs) Q E hr I.env0 (hb s us I.kIn hl) r2 h) fun r s' hq=>?_)
 cases r with
 | error e=>exact hx pins σ H s e s' I hq
 | ok fl =>
  cases fl with
  | ret u=>exact I.after hq
  | next=>exact False.elim hq
  | brk=>exact False.elim hq
  | cont=>exact False.elim hq
theorem zkk (F:FnOk X.prog X.w X.K X.mg X.base CX k f fd ps sp) (hr:Room k X.A) (hg:Gl X x) (hm:X.mg x=some (.ref f)) (hk:PySem.W.keepIn X.K (.ref f)=true) (hb:zdF X.K fd ps ds) (hd:zbS dvs ds) (hx:zhu CX X E)
  (ha:PA X (e::es) t) (hdb:(x==("__debug__":Str))=false:=by decide) (he:starEach (e::es) X.env=(false,eval e X.env)::starEach es X.env:=by rfl) (hpl:(backTo pos (starEach es X.env)).any (·.1)=false:=by rfl) :
  PE X (.Call (.Name x p) (e::es) [] pos) (zuc sp dvs E t):=by
 intro pins s σ H Q I h
 refine wpAny_Call_Name_kw (zkq I hg hm ?_ hdb)
 refine PySem.W.callWith_K (h₀:=X.base) I.ok.mod.kin hk (thn (ha pos pins s σ H _ I h) fun us s1 ⟨vs,H1,I1,r,q⟩=>⟨I1.kIn,?_⟩) he hpl
 exact zmu F hr hb hd hx I1 r q
theorem zqH {pl:Sem Bool} (he:PE X o ta) (c:Cls X.K C) (hm:Meth X.K C m f) (F:FnOk X.prog X.w X.K X.mg X.base CX k f fd ps sp) (hr:Room k X.A) (hb:zdF X.K fd ps ds) (hd:zbS dvs ds) (hx:zhu CX X E) (ha:PA X (e::es) t)
  (hst:starEach (e::es) X.env=(false,eval e X.env)::starEach es X.env:=by rfl) (hpl:(backTo pos (starEach es X.env)).any (·.1)=false:=by rfl)
  (ht:eval (.Call (.Attribute o m apos) (e::es) [] pos) X.env=(do
   let ov ← eval o X.env
   standAt apos.atName
   let (f,first) ← holding [ov] (getMethod ov m pl)
   callWith pos f first (backTo pos (starEach (e::es) X.env)) (backToKw pos (keywordEach [] X.env))):=by rfl) :
  PE X (.Call (.Attribute o m apos) (e::es) [] pos) (zsi C m sp dvs E ta t):=by
 intro pins s σ H Q I h
 refine PySem.W.methodCall_KW (pl:=pl) (thn (he pins s σ H _ I h) fun u s1 ⟨x,H1,I1,rx,a,dx,fs,ex,ea,l,q⟩=>?_) ht
 subst ex
 obtain rfl:u=Value.ref a:=rx
 refine zf1 I1 ea c hm l ?_
 refine PySem.W.callWith_K (first:=[.ref a]) (h₀:=X.base) I.ok.mod.kin hm.kp (thn (ha pos pins s1 σ H1 _ I1 q) fun us s2 ⟨vs,H2,I2,r,q2⟩=>⟨I2.kIn,?_⟩) hst hpl
 exact zmu (us:=.ref a::us) (vs:=.ref a::vs) F hr hb hd hx I2 (.cons rfl r) q2
theorem zoz {pl:Sem Bool} (he:PE X o ta) (c:Cls X.K C) (hm:Meth X.K C m f) (F:FnOk X.prog X.w X.K X.mg X.base CX k f fd ps sp) (hr:Room k X.A) (hb:zdF X.K fd ps ds) (hd:zbS dvs ds) (hx:zhu CX X E)
  (ht:eval (.Call (.Attribute o m apos) [] [] pos) X.env=(do
   let ov ← eval o X.env
   standAt apos.atName
   let (f,first) ← holding [ov] (getMethod ov m pl)
   callWith pos f first (backTo pos (starEach [] X.env)) (backToKw pos (keywordEach [] X.env))):=by rfl) :
  PE X (.Call (.Attribute o m apos) [] [] pos) (zsi C m sp dvs E ta zu4):=by
 intro pins s σ H Q I h
 refine PySem.W.methodCall_KW (pl:=pl) (thn (he pins s σ H _ I h) fun u s1 ⟨x,H1,I1,rx,a,dx,fs,ex,ea,l,q⟩=>?_) ht
 subst ex
 obtain rfl:u=Value.ref a:=rx
 refine zf1 I1 ea c hm l ?_
 exact PySem.W.callWith_K0 (first:=[.ref a]) I1.kIn hm.kp (zmu (us:=[.ref a]) (vs:=[.ref a]) F hr hb hd hx I1 (.cons rfl .nil) q)
structure Mk (K:PySem.W.Frag) (C f:Addr):Prop where
 makes:PySem.W.makesIn K C=true
 init:PySem.W.findIn K (.ref C) "__init__"=some (some (.ref f))
 fn:PySem.W.isFn K (.ref f)=true
 kp:PySem.W.keepIn K (.ref C)=true
theorem zoq {pins:List (Addr×Obj)} {σ:St} {H:Hp} {s:Shared} {Q:VK} {us:List Value} {vs:List V} (M:Mk X.K C f) (F:FnOk X.prog X.w X.K X.mg X.base CX k f fd ps sp) (hr:Room (k+1) X.A) (hb:zdF X.K fd ps ds) (hd:zbS dvs ds)
  (hx:zhu CX X E) (I:Inv X pins σ H s) (r:zbS vs us)
  (h:∀ x dx,H x=none->H dx=none->dx≠x->sp (.ref x::(vs++dvs)) (upd (upd H dx (.own x)) x (.ins C dx [])) (fun v H2=>v=.non/\Q (.ref x) H2) E) :
  wpAny (model X.prog X.w) X.A (call (.ref C) us) (EP X pins σ Q) X.xe s:=by
 have hq:=h (s.heap.objs.size+1) s.heap.objs.size (I.hok.fresh (Nat.le_succ _)) (I.hok.fresh (qw _)) (qB (Nat.lt_succ_self _))
 have I2:=Inv.made (C:=C) I
 have r2:zbS (V.ref (s.heap.objs.size+1)::(vs++dvs)) (Value.ref (s.heap.objs.size+1)::(us++ds)):=.cons rfl (r.append hd)
 have hl:(Value.ref (s.heap.objs.size+1)::us++ds).length=ps.length:=by
  have e:=r2.length
  rw [F.len _ _ _ _ hq] at e
  exact e.symm
 refine wpAny_call (zoK (f:=f) I.kIn M.makes M.init (beq_iff_eq.mp M.fn) (codeAny_mono (F.run _ X.stack _ _ ⟨Value.ref (s.heap.objs.size+1)::us,[]⟩ (Value.ref (s.heap.objs.size+1)::(us++ds)) _ _ E (hr.make C us [])
  (I2.env0.make C us []) (hb _ (Value.ref (s.heap.objs.size+1)::us) I2.kIn hl) r2 hq) fun r s' hq'=>?_))
 cases r with
 | error e=>exact hx pins σ _ _ e s' I2 hq'
 | ok fl =>
  cases fl with
  | ret u =>
   obtain ⟨v,H',I3,rv,ev,q3⟩:=I2.after hq'
   subst ev
   exact ⟨rv,⟨V.ref (s.heap.objs.size+1),H',I3,rfl,q3⟩⟩
  | next=>exact False.elim hq'
  | brk=>exact False.elim hq'
  | cont=>exact False.elim hq'
theorem zqI (M:Mk X.K C f) (F:FnOk X.prog X.w X.K X.mg X.base CX k f fd ps sp) (hr:Room (k+1) X.A) (hg:Gl X x) (hm:X.mg x=some (.ref C)) (hb:zdF X.K fd ps ds) (hd:zbS dvs ds) (hx:zhu CX X E)
  (ha:PA X (e::es) t) (hdb:(x==("__debug__":Str))=false:=by decide) (he:starEach (e::es) X.env=(false,eval e X.env)::starEach es X.env:=by rfl) (hpl:(backTo pos (starEach es X.env)).any (·.1)=false:=by rfl) :
  PE X (.Call (.Name x p) (e::es) [] pos) (zt8 C sp dvs E t):=by
 intro pins s σ H Q I h
 refine wpAny_Call_Name_kw (zkq I hg hm ?_ hdb)
 refine PySem.W.callWith_K (h₀:=X.base) I.ok.mod.kin M.kp (thn (ha pos pins s σ H _ I h) fun us s1 ⟨vs,H1,I1,r,q⟩=>⟨I1.kIn,?_⟩) he hpl
 exact zoq M F hr hb hd hx I1 r q
end
section
variable {X:Cx} {CX:CXT} {k:Nat} {f C:Addr} {fd:FuncData} {ps ks:List Str} {sp:Sp} {E:XK} {x m:Str} {p pos apos kpos:Pos} {e o:Expr} {es:List Expr} {kws:List Keyword} {te ta:TE} {t tk:TA} {nm:Option Str}
structure KBinds (K:PySem.W.Frag) (fd:FuncData) (ps ks:List Str) (g:List Value->List Value->List Value) (gV:List V->List V->List V):Prop where
 to:∀ (s:Shared) (us ws:List Value),K.In s.heap->(g us ws).length=ps.length->BindsTo s fd ⟨us,ks.zip ws⟩ (ps.zip (g us ws))
 rel:∀ {vs:List V} {us:List Value} {zs:List V} {ws:List Value},zbS vs us->zbS zs ws->zbS (gV vs zs) (g us ws)
variable {g:List Value->List Value->List Value} {gV:List V->List V->List V}
end
structure FnScope (N P:List Str) (sc:Scope):Prop where
 kind:sc.kind=.function
 co:sc.isCoroutine=false
 gen:sc.isGenerator=false
 nd:N.Nodup
 pre:N.take P.length=P
 par:∀ x∈P,sc.names.lookup x=some .local\/sc.names.lookup x=some .cell
 nofree:∀ y∈sc.names,y.2≠.free
theorem zjZ {kindOf:Str->Option NameKind} {x:Str}:∀ {binds:List (Str×Value)} {m:Str->Option Value},(∀ v,(x,v)∉binds)->bindL kindOf binds m x=m x
 | [],_,_=>rfl
 | (n,v)::r,m,h=>by
  unfold bindL
  rw [zjZ fun w hw=>h w (qi _ hw)]
  split
  ·have:x≠n:=by rintro rfl;exact h v qh
   simp [this]
  ·rfl
theorem zj1 {kindOf:Str->Option NameKind} {x:Str}:∀ {binds:List (Str×Value)} {m:Str->Option Value},(∀ v,(x,v)∉binds)->bindC kindOf binds m x=m x
 | [],_,_=>rfl
 | (n,v)::r,m,h=>by
  unfold bindC
  rw [zj1 fun w hw=>h w (qi _ hw)]
  split
  ·rfl
  ·have:x≠n:=by rintro rfl;exact h v qh
   simp [this]
theorem zj0 {kindOf:Str->Option NameKind} {x:Str} {v:Value}:∀ {P:List Str} {vs:List Value} {i:Nat} {m:Str->Option Value},P.Nodup->P[i]?=some x->vs[i]?=some v->kindOf x=some .local ->
  bindL kindOf (P.zip vs) m x=some v
 | [],_,_,_,_,h,_,_=>by simp at h
 | _::_,[],_,_,_,_,h,_=>by simp at h
 | p::P,w::vs,0,m,nd,h1,h2,hk=>by
  simp at h1 h2;subst h1;subst h2
  show bindL kindOf ((p,w)::P.zip vs) m p=_
  unfold bindL
  rw [zjZ fun v hv=>(List.nodup_cons.mp nd).1 (List.of_mem_zip hv).1,qU hk]
  simp
 | p::P,w::vs,i+1,m,nd,h1,h2,hk=>by
  show bindL kindOf ((p,w)::P.zip vs) m x=_
  unfold bindL
  exact zj0 (i:=i) (List.nodup_cons.mp nd).2 (by simpa using h1) (by simpa using h2) hk
theorem zj2 {kindOf:Str->Option NameKind} {x:Str} {v:Value}:∀ {P:List Str} {vs:List Value} {i:Nat} {m:Str->Option Value},P.Nodup->P[i]?=some x->vs[i]?=some v->kindOf x≠some .local ->
  bindC kindOf (P.zip vs) m x=some v
 | [],_,_,_,_,h,_,_=>by simp at h
 | _::_,[],_,_,_,_,h,_=>by simp at h
 | p::P,w::vs,0,m,nd,h1,h2,hk=>by
  simp at h1 h2;subst h1;subst h2
  show bindC kindOf ((p,w)::P.zip vs) m p=_
  unfold bindC
  rw [zj1 fun v hv=>(List.nodup_cons.mp nd).1 (List.of_mem_zip hv).1,qV hk]
  simp
 | p::P,w::vs,i+1,m,nd,h1,h2,hk=>by
  show bindC kindOf ((p,w)::P.zip vs) m x=_
  unfold bindC
  exact zj2 (i:=i) (List.nodup_cons.mp nd).2 (by simpa using h1) (by simpa using h2) hk
def zfv (N:List Str) (vs:List V):St:=vs.map some++List.replicate (N.length - vs.length) none
def zj6 (CX:CXT) (P:Program) (w:World) (K:PySem.W.Frag) (mg:Str->Option Value) (base:Heap) (N:List Str) (qual:Str) (scope:Scope) (f:Addr) (cd:Value) (A:Around) (outer:List Env) (s:Shared) (H:Hp) (E:XK):Cx where
 prog:=P
 w:=w
 K:=K
 mg:=mg
 base:=base
 A:=A.deeper (envOfC qual scope s.heap.objs.size f cd)
 N:=N
 s₀:=s
 H₀:=H
 env:=envOfC qual scope s.heap.objs.size f cd
 outer:=outer
 stack:=envOfC qual scope s.heap.objs.size f cd::outer
 ex:=[]
 calm:=true
 fn:=fun _=>true
 pn:=[]
 xe:=fun e s'=>wpAny (model P w) (A.deeper (envOfC qual scope s.heap.objs.size f cd)) (leaving (envOfC qual scope s.heap.objs.size f cd) e) (fun _ s''=>CX outer H s E e s'') (fun e' s''=>CX outer H s E e' s'') s'
theorem zlu {sc:Scope} {n:Nat} {x:Str} (h:sc.names.lookup x=some .cell):∃ c,(cellsFrom n sc.names []).lookup x=some c:=by
 have q:=PySem.W.cellsFrom_some sc.names n [] (.inl h)
 exact Option.isSome_iff_exists.mp q
theorem znj {CX:CXT} {P:Program} {w:World} {K:PySem.W.Frag} {mg:Str->Option Value} {base:Heap} {N ps:List Str} {qual:Str} {scope:Scope} {f:Addr} {cd:Value} {A:Around} {outer:List Env} {s s1:Shared} {H:Hp} {E:XK} {us:List Value} {vs:List V}
  (S:FnScope N ps scope) (hd:A.handled=none) (e0:Env0 P w K mg base A outer s H) (hl:vs.length=ps.length) (r:zbS vs us)
  (x:InCallC s s.heap.objs.size (bindL (envOfC qual scope s.heap.objs.size f cd).kindOf (ps.zip us) fun _=>none) (cellsFrom (s.heap.objs.size+1) scope.names []) (bindC (envOfC qual scope s.heap.objs.size f cd).kindOf (ps.zip us) fun _=>none) s1) :
  Inv (zj6 CX P w K mg base N qual scope f cd A outer s H E) [] (zfv N vs) H s1:=by
 have hpl:ps.length<=N.length:=by have:=congrArg List.length S.pre;rw [qD] at this;omega
 obtain ⟨h1,tk,rfl,hk⟩:=x.done
 have noA:∀ b:Addr,b∉(zj6 CX P w K mg base N qual scope f cd A outer s H E).ex:=fun b z=>absurd (show b∈([]:List Addr) from z) (by simp)
 refine ⟨⟨e0.mod,S.kind,rfl,rfl,qw _,fun y z c h1 h2=>?_,fun y hy=>?_,fun y c _ h=>?_,fun _=>hd,Around.frames_deeper e0.frames,.inr ⟨rfl,rfl⟩,fun b z=>absurd z (noA b),e0.bs,e0.bsz,fun b _ _=>noA b,fun b z=>absurd z (noA b),e0.funs,e0.frf⟩,
  rfl,e0.bare,Un.kept hk,⟨_,x.toInCall.ns,fun i y v h1 h2 h3=>?_⟩,fun y c h=>⟨_,x.cell y c h⟩,e0.hok.fresh (qw _),fun y c h=>?_,fun p hp=>absurd (show p∈([]:List (Addr×Obj)) from hp) (by simp),e0.hok.kept hk,?_⟩
 ·exact name_of_addr x.apart (PySem.mem_of_lookup h1) (PySem.mem_of_lookup h2)
 ·have hy:scope.names.lookup y=some .cell\/scope.names.lookup y=some .free:=hy
  rcases hy with hy | hy
  ·exact zlu hy
  ·exact absurd rfl (S.nofree _ (PySem.mem_of_lookup hy))
 ·exact Nat.le_of_lt (x.above y c (PySem.mem_of_lookup h))
 ·have hi:i < vs.length:=by
   unfold zfv at h2
   by_cases hi:i < vs.length
   ·exact hi
   ·rw [qI (by simpa using hi)] at h2
    rw [List.getElem?_replicate] at h2
    split at h2 <;> cases h2
  have ha:vs[i]?=some v:=by
   unfold zfv at h2
   rw [qy (by simpa using hi),qm] at h2
   cases e:vs[i]? with
   | none=>rw [e] at h2;cases h2
   | some a=>rw [e] at h2;cases h2;rfl
  obtain ⟨u,hu,rv⟩:=r.get ha
  have hp:ps[i]?=some y:=by
   rw [← S.pre,List.getElem?_take_of_lt (by omega)];exact h1
  have ndP:ps.Nodup:=by rw [← S.pre];exact S.nd.sublist (List.take_sublist _ _)
  refine ⟨u,rv,?_⟩
  rcases S.par y (qN hp) with k | k
  ·exact .inl ⟨k,zj0 ndP hp hu k⟩
  ·obtain ⟨c,e⟩:=zlu (n:=s.heap.objs.size+1) k
   refine .inr ⟨.inl k,c,e,?_⟩
   have q:=x.cell y c e
   rw [zj2 ndP hp hu (by show scope.names.lookup y≠_;rw [k];decide)] at q
   exact q
 ·exact e0.hok.fresh (Nat.le_of_lt (x.above y c (PySem.mem_of_lookup h)))
 ·unfold zfv
  show _=N.length
  rw [qk,qg,List.length_replicate]
  omega
theorem zuJ {CX:CXT} {P:Program} {w:World} {K:PySem.W.Frag} {mg:Str->Option Value} {base:Heap} {k:Nat} {f:Addr} {name qual:Str} {params:Arguments} {body:List Stmt} {scope:Scope} {dV kV doc pm cdv ct oc:Value} {an od:Option Addr}
  {osl:Array (Option Value)} {N ps:List Str} {sp:Sp} (lk:K.lookup f=some ⟨oc,od,.func (PySem.W.fnOf name qual params body scope dV kV doc pm an cdv ct),osl⟩) (hcd:PySem.W.codeIn K cdv qual=true) (S:FnScope N ps scope)
  (len:∀ vs H Q E,sp vs H Q E->vs.length=ps.length)
  (hbody:∀ (A:Around) (outer:List Env) (s:Shared) (H:Hp) (vs:List V) (Q:VK) (E:XK),Room k (A.deeper (envOfC qual scope s.heap.objs.size f cdv))->sp vs H Q E ->
   ∃ t,PSs (zj6 CX P w K mg base N qual scope f cdv A outer s H E) body t/\t { nx:=fun _ H'=>Q .non H',rt:=Q } (zfv N vs) H) :
  FnOk P w K mg base CX (k+1) f (PySem.W.fnOf name qual params body scope dV kV doc pm an cdv ct) ps sp:=by
 refine ⟨len,fun A outer s H args us vs Q E hr e0 hb r hsp=>?_⟩
 have hl:=len _ _ _ _ hsp
 have KX:K.In s.heap:=e0.mod.kin.keeps fun b o e=>(e0.bs b o e).1
 have lim:s.heap.NoLimit:=e0.mod.nolimit.keeps fun b o e=>(e0.bs b o e).1
 have hkind:∀ y∈ps.zip us,scope.names.lookup y.1=some .local\/(scope.names.lookup y.1=some .cell/\((cellsFrom (s.heap.objs.size+1) scope.names []).lookup y.1).isSome=true):=fun ⟨n,v⟩ hy=>by
  rcases S.par n (List.of_mem_zip hy).1 with q | q
  ·exact .inl q
  ·exact .inr ⟨q,PySem.W.cellsFrom_some _ _ _ (.inl q)⟩
 refine codeAny_call_function hr.depth (KX _ _ lk) rfl S.co S.gen rfl (PySem.W.codeRec_of KX hcd) (hb _ _ _ _ ?_)
 refine wpAny_newFunctionEnv_cells S.kind hkind fun env he s1 x=>?_
 subst he
 refine ⟨lim.keeps x.toInCall.keep,codeAny_func ?_⟩
 obtain ⟨t,ht,hq⟩:=hbody A outer s H vs Q E (hr.deeper _) hsp
 have I:Inv (zj6 CX P w K mg base N qual scope f cdv A outer s H E) [] (zfv N vs) H s1:=znj S hr.hd e0 hl r x
 refine wpAny_mono (ht [] s1 (zfv N vs) H _ I hq) (fun fl s' hs=>?_) fun e s' hs=>hs
 have fin:∀ {σ':St} {H':Hp} {v:V} {u:Value},Inv (zj6 CX P w K mg base N qual scope f cdv A outer s H E) [] σ' H' s'->zca v u->Q v H'->CE outer P w H s Q u s' :=
  fun {σ' H' v u} J rv q=>⟨v,H',J.os,J.bare,J.base,J.hok,rv,q⟩
 cases fl with
 | ret u =>
  obtain ⟨v,σ',H',J,rv,q⟩:=hs
  exact fin J rv q
 | next =>
  obtain ⟨σ',H',J,q⟩:=hs
  exact fin (v:=V.non) (u:=Value.none) J rfl q
 | brk =>
  obtain ⟨_,_,_,q⟩:=hs
  exact False.elim q
 | cont =>
  obtain ⟨_,_,_,q⟩:=hs
  exact False.elim q
end L2
namespace L2
open PySem PySem.Spec PyProof.Rows
section
variable {X:Cx} {x:Str} {p pos:Pos} {e:Expr} {es:List Expr} {t:TA} {id T:String} {r:List V->Hp->VK->Prop}
def tCB (r:List V->Hp->VK->Prop) (t:TA):TE:=fun σ H Q=>t σ H fun vs H1=>r vs H1 Q
theorem ziB (hc:zdJ X (.builtin id) r) (hg:Gl X x) (hm:X.mg x=none) (hv:bootBuiltins x=some (.builtin id)) (ha:PA X (e::es) t) (hn:x≠"__name__":=by decide) (hdb:(x==("__debug__":Str))=false:=by decide)
  (he:starEach (e::es) X.env=(false,eval e X.env)::starEach es X.env:=by rfl) (hpl:(backTo pos (starEach es X.env)).any (·.1)=false:=by rfl):PE X (.Call (.Name x p) (e::es) [] pos) (tCB r t):=by
 intro pins s σ H Q I h
 refine wpAny_Call_Name_kw (zif I hg hm hv ?_ hn hdb)
 exact PyProof.Rows.callWith_builtin1 (thn (ha pos pins s σ H _ I h) fun us s1 ⟨vs,H1,I1,r1,q1⟩=>hc pins s1 σ H1 vs us Q I1 r1 q1) he hpl
theorem zg1 (hc:zdJ X (.type T) r) (hg:Gl X x) (hm:X.mg x=none) (hv:bootBuiltins x=some (.type T)) (ha:PA X (e::es) t) (hn:x≠"__name__":=by decide) (hdb:(x==("__debug__":Str))=false:=by decide)
  (he:starEach (e::es) X.env=(false,eval e X.env)::starEach es X.env:=by rfl) (hpl:(backTo pos (starEach es X.env)).any (·.1)=false:=by rfl):PE X (.Call (.Name x p) (e::es) [] pos) (tCB r t):=by
 intro pins s σ H Q I h
 refine wpAny_Call_Name_kw (zif I hg hm hv ?_ hn hdb)
 exact PyProof.Rows.callWith_type1 (thn (ha pos pins s σ H _ I h) fun us s1 ⟨vs,H1,I1,r1,q1⟩=>hc pins s1 σ H1 vs us Q I1 r1 q1) he hpl
end
end L2
end
section
namespace HT
open PySem PyProof.Rows
section
open PySem.SeqAt
open PySem.AutoSeq1 (wpAny_loadPart')
open PySem.MeetsSeq PySem.MeetsSeq2 PySem.MeetsSeq3
end
section
variable {prog:Program} {w:World} {A:Around} {E:Value->Shared->Prop} {s:Shared}
def sIx (n d:Nat):Option Int->Nat
 | none=>d
 | some v=>if v < 0 then (v+(n:Int)).toNat else min v.toNat n
theorem zsw (n d:Nat) (hd:d<=n) (o:Option Int):sIx n d o<=n:=by
 cases o with
 | none=>exact hd
 | some v =>
  show (if v < 0 then (v+(n:Int)).toNat else min v.toNat n)<=n
  by_cases hv:v < 0
  ·rw [qU hv];omega
  ·rw [qV hv];exact Nat.min_le_right _ _
theorem znM (v:Int) (n d:Nat):(if v < 0 then max (v+(n:Int)) 0 else min v (n:Int))=((sIx n d (some v):Nat):Int):=by
 show (if v < 0 then max (v+(n:Int)) 0 else min v (n:Int))=(((if v < 0 then (v+(n:Int)).toNat else min v.toNat n):Nat):Int)
 by_cases hv:v < 0
 ·simp only [qU hv];omega
 ·simp only [qV hv];omega
theorem zl8 (lo hi:Option Int) (n:Nat):Builtin.Slice.sliceAdjust lo hi 1 (n:Int)=(((sIx n 0 lo:Nat):Int),((sIx n n hi:Nat):Int)):=by
 have h1:¬ ((1:Int) < 0):=by omega
 unfold Builtin.Slice.sliceAdjust
 simp only [h1,if_false]
 refine Prod.ext ?_ ?_
 ·cases lo with
  | none=>rfl
  | some v=>exact znM v n 0
 ·cases hi with
  | none=>rfl
  | some v=>exact znM v n n
theorem zlK (i j:Nat):Builtin.Slice.slicePlaces (i:Int) (j:Int) 1=j - i:=by
 unfold Builtin.Slice.slicePlaces
 have h1:(1:Int) > 0:=by omega
 simp only [h1,if_true,Int.ediv_one]
 split <;> omega
theorem zh3 {v:Value} {o:Option Int} {Q:Option Int->Shared->Prop} (p:IsPart v o) (h:Q o s):wpAny (model prog w) A (Builtin.Slice.slicePartIndex v) Q E s:=by
 cases p with
 | none=>exact slicePart_none h
 | int i t=>exact slicePart_int h
theorem zgw {sl:Addr} {vl vu:Value} {lo hi:Option Int} {n:Nat} {Q:Int×Int×Nat->Shared->Prop} (hs:s.heap.IsSliceOf sl vl vu .none) (pl:IsPart vl lo) (pu:IsPart vu hi)
  (h:Q (((sIx n 0 lo:Nat):Int),1,sIx n n hi - sIx n 0 lo) s):wpAny (model prog w) A (Builtin.Slice.sliceApplied (.ref sl) (pure (n:Int))) Q E s:=by
 obtain ⟨os,hos,hcs,hds⟩:=id hs
 unfold Builtin.Slice.sliceApplied Builtin.Slice.sliceFields
 refine qx (qx (wpAny_field hos hds (x:=vl) rfl (qx (wpAny_field hos hds (x:=vu) rfl (qx (wpAny_field hos hds (x:=.none) rfl (qz ?_)))))))
 refine qx (slicePart_none ?_)
 show wpAny _ _ (if ((1:Int)==0)=true then _ else _) _ _ s
 rw [qV (by decide)]
 refine qx (zh3 pl (qx (zh3 pu (qx (qz ?_)))))
 show wpAny _ _ (match Builtin.Slice.sliceAdjust lo hi 1 (n:Int) with | (lo,hi)=>pure (lo,(1:Int),Builtin.Slice.slicePlaces lo hi 1)) _ _ s
 rw [zl8 lo hi n]
 show wpAny _ _ (pure (((sIx n 0 lo:Nat):Int),(1:Int),Builtin.Slice.slicePlaces ((sIx n 0 lo:Nat):Int) ((sIx n n hi:Nat):Int) 1)) _ _ s
 rw [zlK]
 exact qz h
theorem zow (xs:Array Value) (i k:Nat):((List.range k).filterMap fun (m:Nat)=>xs[((i:Int)+(m:Int)*1).toNat]?).toArray=((xs.toList.drop i).take k).toArray:=by
 have e:(fun (m:Nat)=>xs[((i:Int)+(m:Int)*1).toNat]?)=fun m=>xs[i+m]?:=by
  funext m
  have:((i:Int)+(m:Int)*1).toNat=i+m:=by omega
  rw [this]
 rw [e]
 have:=pick_run xs i k
 rw [List.filterMap_map] at this
 have e2:((fun x=>xs[x]?) ∘ fun x=>i+x)=fun m=>xs[i+m]?:=rfl
 rw [e2] at this
 rw [this]
theorem getItem_tuple_cut {t sl:Addr} {items:Array Value} {vl vu:Value} {lo hi:Option Int} {Q:Value->Shared->Prop} (ht:IsTup s.heap t items) (hs:s.heap.IsSliceOf sl vl vu .none) (pl:IsPart vl lo) (pu:IsPart vu hi)
  (hw:¬ (sIx items.size 0 lo=0/\sIx items.size items.size hi=items.size))
  (h:Q (.ref s.heap.objs.size) { s with heap:=s.heap.push { cls:=.type "tuple",data:=.seq ((items.toList.drop (sIx items.size 0 lo)).take (sIx items.size items.size hi - sIx items.size 0 lo)).toArray } })
  (hsz:items.size<=sizeLine):wpAny (model prog w) A (getItem (.ref t) (.ref sl)) Q E s:=by
 have htake:sizeOk (.seq ((items.toList.drop (sIx items.size 0 lo)).take (sIx items.size items.size hi - sIx items.size 0 lo)).toArray):=by
  show ((items.toList.drop (sIx items.size 0 lo)).take (sIx items.size items.size hi - sIx items.size 0 lo)).toArray.size<=sizeLine
  rw [qA,qD,List.length_drop,Array.length_toList]
  omega
 have hj:sIx items.size items.size hi<=items.size:=zsw _ _ (qw _) hi
 obtain ⟨os,hos,hcs,hds⟩:=id hs
 have hTs:s.TypeIs (.ref sl) "slice":=⟨os,hos,hcs⟩
 unfold getItem
 try with_reducible refine wpAny_holding ?_
 first | refine qx (qz ?_) | skip
 refine qx (wpAny_sequenceKey ht.typeIs (by decide) ?_)
 refine qx (wpAny_callSpecial?_slot (name:=Str.ofString "__getitem__") ht.typeIs PyProof.Rows.slot_tuple_getitem
  (wpAny_call_entry PyProof.Rows.slot_tuple_getitem ht.typeIs entry_tuple_getitem ?_ (args_tuple_getitem _ _)))
 show wpAny _ _ (Builtin.Tuple.tupleItemsOf (.ref t) >>= _) _ _ s
 refine qx (tupleItemsOf_ ht ?_)
 refine qx (wpAny_typeOf hTs ?_)
 rw [qU (by decide)]
 refine qx (zgw hs pl pu ?_)
 have hno:¬ ((((sIx items.size 0 lo:Nat):Int)==0 && (1:Int)==1 && (sIx items.size items.size hi - sIx items.size 0 lo)==items.size)=true):=by
  intro q
  rw [Bool.and_eq_true,Bool.and_eq_true] at q
  have q1:((sIx items.size 0 lo:Nat):Int)=0:=eq_of_beq q.1.1
  have q2:sIx items.size items.size hi - sIx items.size 0 lo=items.size:=eq_of_beq q.2
  exact hw ⟨by omega,by omega⟩
 show wpAny _ _ (if (((sIx items.size 0 lo:Nat):Int)==0 && (1:Int)==1 && (sIx items.size items.size hi - sIx items.size 0 lo)==items.size)=true then _ else _) _ _ s
 rw [qV hno,zow]
 first
  | exact qx (m:=Builtin.Tuple.tupleExact _) (wpAny_newObj_type (qz ⟨_,rfl,qz h⟩) htake)
  | exact qx (m:=Builtin.Tuple.tupleExact _) (wpAny_newObj_type (qx (qz (qz ⟨_,rfl,qz h⟩))) htake)
  | exact qx (qx (m:=Builtin.Tuple.tupleExact _) (wpAny_newObj_type (qz (qz ⟨_,rfl,qz h⟩)) htake))
  | exact qx (qx (m:=Builtin.Tuple.tupleExact _) (wpAny_newObj_type (qz ⟨_,rfl,qz h⟩) htake))
end
end HT
namespace L2
open PySem PySem.Spec PyProof.Rows
abbrev TO:=St->Hp->(Option Int->Hp->Prop)->Prop
def PO (X:Cx) (e:Option Expr) (t:TO):Prop :=
 ∀ (pins:List (Addr×Obj)) (s:Shared) (σ:St) (H:Hp) (Q:Option Int->Hp->Prop),Inv X pins σ H s->t σ H Q ->
  wpAny (model X.prog X.w) X.A (evalPart e X.env) (fun u s'=>∃ o H',Inv X pins σ H' s'/\IsPart u o/\Q o H') X.xe s
def zp8:TO:=fun _ H Q=>Q none H
def zt5 (t:TE):TO:=fun σ H Q=>t σ H fun x H1=>∃ i,x=.int i/\Q (some i) H1
section
variable {X:Cx} {e:Expr} {te:TE} {lo hi:Option Expr} {tl th:TO} {pos p2:Pos}
theorem zqB:PO X none zp8:=by
 intro pins s σ H Q I h
 rw [evalPart_none]
 exact qz ⟨none,H,I,.none,h⟩
theorem zqA (h:PE X e te):PO X (some e) (zt5 te):=by
 intro pins s σ H Q I hw
 rw [evalPart_some]
 refine thn (h pins s σ H _ I hw) fun u s1 ⟨x,H1,I1,r1,q1⟩=>?_
 obtain ⟨i,rfl,q⟩:=q1
 obtain ⟨t,rfl⟩:=r1
 exact ⟨some i,H1,I1,.int i t,q⟩
def SlR (X:Cx) (r:V->Option Int->Option Int->Hp->VK->Prop):Prop :=
 ∀ (pins:List (Addr×Obj)) (s:Shared) (σ:St) (H:Hp) (x:V) (v vl vu:Value) (lo hi:Option Int) (sl:Addr) (Q:VK),Inv X pins σ H s->zca x v->s.heap.IsSliceOf sl vl vu .none->IsPart vl lo->IsPart vu hi->r x lo hi H Q ->
  ∃ T id,typeLookup (.type T) "__getitem__"=pure (some (.builtin id))/\s.TypeIs v T/\wpAny (model X.prog X.w) X.A (getItem v (.ref sl)) (EP X pins σ Q) X.xe s
theorem SlR.or {r r':V->Option Int->Option Int->Hp->VK->Prop} (h:SlR X r) (h':SlR X r'):SlR X (fun x lo hi H Q=>r x lo hi H Q\/r' x lo hi H Q):=by
 intro pins s σ H x v vl vu lo hi sl Q I rx hs pl pu q
 rcases q with q | q
 ·exact h pins s σ H x v vl vu lo hi sl Q I rx hs pl pu q
 ·exact h' pins s σ H x v vl vu lo hi sl Q I rx hs pl pu q
def tSl (r:V->Option Int->Option Int->Hp->VK->Prop) (te:TE) (tl th:TO):TE:=fun σ H Q=>te σ H fun x H1=>tl σ H1 fun l H2=>th σ H2 fun u H3=>r x l u H3 Q
theorem zoy {r:V->Option Int->Option Int->Hp->VK->Prop} (hr:SlR X r) (he:PE X e te) (hl:PO X lo tl) (hu:PO X hi th):PE X (.Subscript e (.Slice lo hi none p2) pos) (tSl r te tl th):=by
 intro pins s σ H Q I h
 refine Subscript_ (thn (he pins s σ H _ I h) fun v s1 ⟨x,H1,I1,r1,q1⟩=>?_)
 refine wpAny_Slice (thn (hl pins s1 σ H1 _ I1 q1) fun vl s2 ⟨l,H2,I2,pl,q2⟩=>thn (hu pins s2 σ H2 _ I2 q2) fun vu s3 ⟨u,H3,I3,pu,q3⟩=>?_)
 rw [evalPart_none]
 refine qz ?_
 have I4:Inv X pins σ H3 { s3 with heap:=s3.heap.push { cls:=.type "slice",data:=.fields #[vl,vu,.none] } }:=I3.kept (t':=s3.toks) fun b ob q=>qu _ q
 obtain ⟨T,id,hT,ht,hg⟩:=hr pins { s3 with heap:=s3.heap.push { cls:=.type "slice",data:=.fields #[vl,vu,.none] } } σ H3 x v vl vu l u s3.heap.objs.size Q I4 r1 (Heap.IsSliceOf.new ..) pl pu q3
 show wpAny (model X.prog X.w) X.A (subscriptTail e (.Slice lo hi none p2) v (.ref s3.heap.objs.size)) (EP X pins σ Q) X.xe { s3 with heap:=s3.heap.push { cls:=.type "slice",data:=.fields #[vl,vu,.none] } }
 exact tail_any (ops:=[.ref s3.heap.objs.size,v]) ht hT hg (by with_unfolding_all rfl)
def zpW (xs:List V) (lo hi:Option Int):List V:=(xs.drop (HT.sIx xs.length 0 lo)).take (HT.sIx xs.length xs.length hi - HT.sIx xs.length 0 lo)
theorem zhj (xs:List V) (lo hi:Option Int):(zpW xs lo hi).length<=xs.length:=by
 unfold zpW
 rw [qD,List.length_drop]
 omega
def zvF (K:PySem.W.Frag):V->Option Int->Option Int->Hp->VK->Prop:=fun x lo hi H Q=>∃ a xs,x=.ref a/\SqT K H a xs /\
 ¬ (HT.sIx xs.length 0 lo=0/\HT.sIx xs.length xs.length hi=xs.length)/\∀ p,H p=none->Q (.ref p) (upd H p (.tup (zpW xs lo hi)))
theorem zsr:SlR X (zvF X.K):=by
 intro pins s σ H x v vl vu lo hi sl Q I rx hs pl pu h
 obtain ⟨a,xs,rfl,hx,hw,q⟩:=h
 cases rx
 obtain ⟨its,r,ht,hz⟩:=I.tuple hx
 have hlen:its.toArray.size=xs.length:=by rw [qA];exact r.length.symm
 refine ⟨"tuple",_,PyProof.Rows.slot_tuple_getitem.lookup,ht.typeIs,?_⟩
 refine HT.getItem_tuple_cut ht hs pl pu (by rw [hlen];exact hw) ?_ (by rw [hlen];exact hz)
 rw [hlen]
 refine ⟨.ref s.heap.objs.size,_,I.laid (t':=s.toks) (o:=.tup (zpW xs lo hi)) (fun b ob q=>qu _ q) (qw _) ?_,rfl,q _ (I.hok.fresh (qw _))⟩
 exact ⟨qK (zhj xs lo hi) hz,_,(r.drop (HT.sIx xs.length 0 lo)).take (HT.sIx xs.length xs.length hi - HT.sIx xs.length 0 lo),IsTup.new _ _⟩
end
end L2
namespace L2
open PySem PySem.Spec PyProof.Rows
def ixN (n:Nat) (i:Int):Option Nat:=if 0<=i then (if i < n then some i.toNat else none) else if -(n:Int)<=i then some (i+n).toNat else none
def atI {α:Type} (xs:List α) (i:Int):Option α:=(ixN xs.length i).bind fun j=>xs[j]?
theorem znh {n:Nat} {i:Int} {j:Nat} (h:ixN n i=some j):seqIndex? i n=some j/\j < n /\ -(n:Int)<=i/\i < n:=by
 unfold ixN at h
 by_cases h0:0<=i
 ·rw [qU h0] at h
  by_cases h1:i < n
  ·rw [qU h1] at h
   have e:i.toNat=j:=qG h
   exact ⟨by rw [seqIndex_of h0 h1,e],by omega,by omega,h1⟩
  ·rw [qV h1] at h;cases h
 ·rw [qV h0] at h
  by_cases h1 : -(n:Int)<=i
  ·rw [qU h1] at h
   have e:(i+n).toNat=j:=qG h
   exact ⟨by rw [seqIndex_neg (by omega) h1,e],by omega,h1,by omega⟩
  ·rw [qV h1] at h;cases h
theorem zkJ {α:Type} {xs:List α} {i:Int} {v:α} (h:atI xs i=some v):∃ j,seqIndex? i xs.length=some j/\xs[j]?=some v/\j < xs.length /\ -(xs.length:Int)<=i/\i < xs.length:=by
 unfold atI at h
 cases e:ixN xs.length i with
 | none=>rw [e] at h;cases h
 | some j =>
  rw [e] at h
  obtain ⟨h1,h2,h3,h4⟩:=znh e
  exact ⟨j,h1,h,h2,h3,h4⟩
theorem zfl {α:Type} {xs:List α} {j:Nat} {v:α} (h:xs[j]?=some v):atI xs (j:Int)=some v:=by
 have hj:j < xs.length:=(List.getElem?_eq_some_iff.mp h).1
 have e:ixN xs.length (j:Int)=some j:=by
  unfold ixN
  rw [qU (by omega),qU (by omega)];simp
 unfold atI;rw [e];exact h
def zn7 (b:Expr):Prop:=∀ o i,subscripted b false o i=operate [o,i] (getItem o i)
def IxR (X:Cx) (r:R2):Prop :=
 ∀ (value slice:Expr) (pins:List (Addr×Obj)) (s:Shared) (σ:St) (H:Hp) (x y:V) (v u:Value) (Q:VK),Inv X pins σ H s->zca x v->zca y u->r x y H Q ->
  subscripted slice false v u=operate [v,u] (getItem v u)->wpAny (model X.prog X.w) X.A (subscriptTail value slice v u) (EP X pins σ Q) X.xe s
def MtR (X:Cx) (id:String) (r:V->List V->Hp->VK->Prop):Prop :=
 ∀ (pins:List (Addr×Obj)) (s:Shared) (σ:St) (H:Hp) (x:V) (xs:List V) (v:Value) (us:List Value) (Q:VK),Inv X pins σ H s->zca x v->zbS xs us->r x xs H Q ->
  wpAny (model X.prog X.w) X.A (call (.builtin id) (v::us)) (EP X pins σ Q) X.xe s
section
variable {X:Cx} {a b:Expr} {ta tb:TE} {pos:Pos}
theorem IxR.or {r r':R2} (h:IxR X r) (h':IxR X r'):IxR X (fun x y H Q=>r x y H Q\/r' x y H Q):=by
 intro value slice pins s σ H x y v u Q I rx ry q hs
 rcases q with q | q
 ·exact h value slice pins s σ H x y v u Q I rx ry q hs
 ·exact h' value slice pins s σ H x y v u Q I rx ry q hs
theorem zuq {r:R2} (hr:IxR X r) (ha:PE X a ta) (hb:PE X b tb) (hs:zn7 b):PE X (.Subscript a b pos) (tOp r ta tb):=by
 intro pins s σ H Q I h
 exact Subscript_ (zuO ha hb I h fun v u s2 x y H2 I2 rx ry q=>hr a b pins s2 σ H2 x y v u Q I2 rx ry q (hs _ _))
def zu8 (K:PySem.W.Frag):R2:=fun x y H Q=>∃ p xs i v,x=.ref p/\y=.int i/\SqL K H p xs/\atI xs i=some v/\Q v H
def zu6 (K:PySem.W.Frag):R2:=fun x y H Q=>∃ p xs i v,x=.ref p/\y=.int i/\SqT K H p xs/\atI xs i=some v/\Q v H
def zu7:R2:=fun x y H Q=>∃ z i c,x=.str z/\y=.int i/\z.length<=sizeLine/\atI z.cps.toList i=some c/\Q (.str ⟨#[c]⟩) H
theorem zri:IxR X (zu8 X.K):=by
 intro value slice pins s σ H x y v u Q I rx ry h hs
 obtain ⟨p,xs,i,z,rfl,rfl,hq,he,q⟩:=h
 cases rx
 obtain ⟨t,rfl⟩:=ry
 obtain ⟨its,r,pl,hz⟩:=I.list hq
 obtain ⟨j,h1,h2,h3,h4,h5⟩:=zkJ he
 obtain ⟨w,ew,rw'⟩:=r.get h2
 have hl:=r.length
 have hn:=zie
 have fin:EP X pins σ Q w s:=⟨z,H,I,rw',q⟩
 by_cases h0:0<=i
 ·have hj:i.toNat=j:=by
   rw [seqIndex_of h0 h5] at h1
   exact qG h1
  exact item_listR pl.isList h0 (by omega) (by rw [hj];simpa using ew) fin hs
 ·have hj:(i+(its.toArray.size:Int)).toNat=j:=by
   rw [seqIndex_neg (by omega) h4] at h1
   rw [qA,← hl]
   exact qG h1
  exact subscriptTail_builtinR (x:=w) pl.isList.typeIs slot_list_getitem.lookup
   (wpAny_getItem_list_neg (Q:=fun r s'=>r=w/\EP X pins σ Q r s') pl.isList (by omega) (by rw [qA] <;> omega) (by omega) (by rw [hj];simpa using ew) ⟨rfl,fin⟩) hs
theorem zti:IxR X (zu6 X.K):=by
 intro value slice pins s σ H x y v u Q I rx ry h hs
 obtain ⟨p,xs,i,z,rfl,rfl,hq,he,q⟩:=h
 cases rx
 obtain ⟨t,rfl⟩:=ry
 obtain ⟨its,r,pl,hz⟩:=I.tuple hq
 obtain ⟨j,h1,h2,h3,h4,h5⟩:=zkJ he
 obtain ⟨w,ew,rw'⟩:=r.get h2
 have hl:=r.length
 have hn:=zie
 have fin:EP X pins σ Q w s:=⟨z,H,I,rw',q⟩
 exact subscriptTail_builtinR (x:=w) pl.typeIs slot_tuple_getitem.lookup
  (getItem_tuple (j:=j) (Q:=fun r s'=>r=w/\EP X pins σ Q r s') pl (by omega) (by omega) (by rw [qA,← hl];exact h1) (by simpa using ew) ⟨rfl,fin⟩) hs
theorem ztj:IxR X zu7:=by
 intro value slice pins s σ H x y v u Q I rx ry h hs
 obtain ⟨z,i,c,rfl,rfl,hz,he,q⟩:=h
 obtain ⟨t,rfl⟩:=rx
 obtain ⟨t',rfl⟩:=ry
 obtain ⟨j,h1,h2,h3,h4,h5⟩:=zkJ he
 have hl:z.cps.toList.length=z.length:=by simp [Str.length]
 rw [hl] at h1 h4 h5
 have hn:=zie
 exact tail_any (typeIs_str s z t) slot_str_getitem.lookup (getItem_str (c:=c) (by
  have e1:decide (i < -(2 ^ 63:Int))=false:=qL (by omega)
  have e2:decide (i ≥ 2 ^ 63)=false:=qL (by omega)
  rw [e1,e2,Bool.or_false]) (by rw [h1];simpa using h2) ⟨.str ⟨#[c]⟩,H,I.tok _,⟨_,rfl⟩,q⟩) hs
def rIx (K:PySem.W.Frag):R2:=fun x y H Q=>zu8 K x y H Q\/zu6 K x y H Q\/zu7 x y H Q
theorem ztk:IxR X (rIx X.K):=zri.or (zti.or ztj)
theorem zlO (its:List Value) (n j:Nat) (u:Value):Obj.mapSeq (·.setIfInBounds j u) { cls:=.type "list",data:=.seq its.toArray n }={ cls:=.type "list",data:=.seq (its.set j u).toArray n }:=by
 simp [Obj.mapSeq]
theorem Inv.lst {pins:List (Addr×Obj)} {σ:St} {H:Hp} {s:Shared} {p:Addr} {xs:List V} (I:Inv X pins σ H s) (h:H p=some (.lst xs)) :
  ∃ (its:List Value) (n:Nat),zbS xs its/\s.heap.get? p=some { cls:=.type "list",data:=.seq its.toArray n }/\xs.length<=sizeLine:=by
 obtain ⟨z,its,n,r,e⟩:=I.hok p _ h
 exact ⟨its,n,r,e,z⟩
theorem Inv.lstUpd {pins:List (Addr×Obj)} {σ:St} {H:Hp} {s:Shared} {p:Addr} {xs ys:List V} {its its':List Value} {n n':Nat} {f:Obj->Obj} (I:Inv X pins σ H s) (h:H p=some (.lst xs))
  (ho:s.heap.get? p=some { cls:=.type "list",data:=.seq its.toArray n }) (hf:f { cls:=.type "list",data:=.seq its.toArray n }={ cls:=.type "list",data:=.seq its'.toArray n' }) (r:zbS ys its') (hz:ys.length<=sizeLine) (t:Nat) :
  Inv X pins σ (upd H p (.lst ys)) { s with heap:=s.heap.update p f,toks:=t }:=by
 have e:(s.heap.update p f).get? p=some { cls:=.type "list",data:=.seq its'.toArray n' }:=by
  rw [Heap.get?_update_self f ho (by rw [hf] <;> rfl),hf]
 refine I.write (x:=p) (e:=p) (by rw [h];trivial) (.inl rfl) (fun b u hb q=>(Heap.get?_update_other _ _ (Ne.symm hb)).trans q) ⟨_,e⟩ ?_
 exact ⟨hz,its',n',r,e⟩
def zui:V->V->V->Hp->(Hp->Prop)->Prop:=fun o i v H Q=>∃ p xs k j,o=.ref p/\i=.int k/\H p=some (.lst xs)/\ixN xs.length k=some j/\Q (upd H p (.lst (xs.set j v)))
theorem zom:zvo X zui:=by
 intro pins s σ H o i v ov iv u Q I ro ri rv h
 obtain ⟨p,xs,k,j,rfl,rfl,hp,hj,q⟩:=h
 cases ro
 obtain ⟨t,rfl⟩:=ri
 obtain ⟨its,n,r,ho,hz⟩:=I.lst hp
 obtain ⟨h1,h2,h3,h4⟩:=znh hj
 have hl:=r.length
 have hn:=zie
 have I':Inv X pins σ (upd H p (.lst (xs.set j v))) { s with heap:=s.heap.update p (Obj.mapSeq (·.setIfInBounds j u)) } :=
  I.lstUpd hp ho (zlO its n j u) (r.set rv j) (by rw [List.length_set];exact hz) s.toks
 by_cases h0:0<=k
 ·have hk:k.toNat=j:=by
   rw [seqIndex_of h0 h4] at h1
   exact qG h1
  exact PySem.W.ki_setAt ho h0 (by omega) (by rw [qA,← hl];exact h4) (by rw [hk];exact ⟨_,I',q⟩)
 ·have hk:(k+(its.toArray.size:Int)).toNat=j:=by
   rw [seqIndex_neg (by omega) h3] at h1
   rw [qA,← hl]
   exact qG h1
  exact PySem.W.ki_setBack ho (by omega) (by rw [qA,← hl];exact h3) (by omega) (by rw [hk];exact ⟨_,I',q⟩)
theorem zjk (lo hi:Option Int) (n:Nat):(sliceBounds lo hi none n).1=((HT.sIx n 0 lo:Nat):Int)/\(sliceBounds lo hi none n).2.1=((HT.sIx n n hi:Nat):Int)/\(sliceBounds lo hi none n).2.2=1:=by
 refine ⟨?_,?_,rfl⟩
 ·cases lo with
  | none=>simp [sliceBounds,HT.sIx]
  | some i =>
   simp only [sliceBounds,HT.sIx,Option.getD_none,show (1:Int) > 0 by decide,if_true]
   by_cases h:i < 0
   ·simp only [h,if_true] <;> omega
   ·simp only [h,if_false] <;> omega
 ·cases hi with
  | none=>simp [sliceBounds,HT.sIx]
  | some i =>
   simp only [sliceBounds,HT.sIx,Option.getD_none,show (1:Int) > 0 by decide,if_true]
   by_cases h:i < 0
   ·simp only [h,if_true] <;> omega
   ·simp only [h,if_false] <;> omega
theorem zit (its:List Value) (lo hi:Option Int):slicePick its.toArray lo hi none=((its.drop (HT.sIx its.length 0 lo)).take (HT.sIx its.length its.length hi - HT.sIx its.length 0 lo)).toArray:=by
 obtain ⟨h1,h2,h3⟩:=zjk lo hi its.toArray.size
 unfold slicePick
 rw [h1,h2,h3]
 simp only [sliceRange_one,pick_run,qA] <;> rfl
def zvG (K:PySem.W.Frag):V->Option Int->Option Int->Hp->VK->Prop:=fun x lo hi H Q=>∃ a xs,x=.ref a/\SqL K H a xs/\∀ p,H p=none->Q (.ref p) (upd H p (.lst (zpW xs lo hi)))
theorem zqh:SlR X (zvG X.K):=by
 intro pins s σ H x v vl vu lo hi sl Q I rx hs pl pu h
 obtain ⟨a,xs,rfl,hx,q⟩:=h
 cases rx
 obtain ⟨its,r,ht,hz⟩:=I.list hx
 have hlen:=r.length
 refine ⟨"list",_,slot_list_getitem.lookup,ht.isList.typeIs,?_⟩
 refine wpAny_getItem_list_slice ht.isList hs pl pu .none (by simp) ?_ (by rw [qA] <;> omega)
 rw [zit,← hlen]
 refine ⟨.ref s.heap.objs.size,_,I.laid (t':=s.toks) (o:=.lst (zpW xs lo hi)) (fun b ob q=>qu _ q) (qw _) ?_,rfl,q _ (I.hok.fresh (qw _))⟩
 exact ⟨qK (zhj xs lo hi) hz,_,0,(r.drop (HT.sIx xs.length 0 lo)).take (HT.sIx xs.length xs.length hi - HT.sIx xs.length 0 lo),qF _ rfl⟩
theorem zjR:zdJ X (.type "list") (fun xs H Q=>∃ p ys,xs=[.ref p]/\(SqL X.K H p ys\/SqT X.K H p ys)/\∀ l,H l=none->Q (.ref l) (upd H l (.lst ys))):=by
 intro pins s σ H xs us Q I r h
 obtain ⟨p,ys,rfl,hq,q⟩:=h
 obtain ⟨u,rfl,rx⟩:=zeb r
 cases rx
 have fin:∀ (its:List Value),zbS ys its->ys.length<=sizeLine->∀ (h':Heap) (c':Nat),(∀ b o',s.heap.get? b=some o'->h'.get? b=some o') ->
   h'.get? s.heap.objs.size=some { cls:=.type "list",dict:=none,data:=.seq its.toArray c',slots:=#[] }->EP X pins σ Q (.ref s.heap.objs.size) { s with heap:=h' }:=fun its r' hz h' c' kp e =>
  ⟨.ref s.heap.objs.size,_,I.laid (t':=s.toks) kp (qw _) (show zcn X.prog X.w _ h' _ (.lst ys) from ⟨hz,its,c',r',e⟩),rfl,q _ (I.hok.fresh (qw _))⟩
 rcases hq with hq | hq
 ·obtain ⟨its,r',pl,hz⟩:=I.list hq
  have hlen:=r'.length
  obtain ⟨o,ho,hc,n,hd⟩:=pl.isList
  exact call_list_seq p (.inl rfl) ho hc hd (fun h' c' kp e=>fin its r' hz h' c' kp e) (by simp only [qA] <;> omega)
 ·obtain ⟨its,r',pl,hz⟩:=I.tuple hq
  have hlen:=r'.length
  obtain ⟨o,ho,hc,n,hd⟩:=pl
  exact call_list_seq p (.inr rfl) ho hc hd (fun h' c' kp e=>fin its r' hz h' c' kp e) (by simp only [qA] <;> omega)
theorem zi1:zdJ X (.type "tuple") (fun xs H Q=>∃ p ys,xs=[.ref p]/\((SqL X.K H p ys/\∀ l,H l=none->Q (.ref l) (upd H l (.tup ys)))\/(SqT X.K H p ys/\Q (.ref p) H))):=by
 intro pins s σ H xs us Q I r h
 obtain ⟨p,ys,rfl,h⟩:=h
 obtain ⟨u,rfl,rx⟩:=zeb r
 cases rx
 rcases h with ⟨hq,q⟩ | ⟨hq,q⟩
 ·obtain ⟨its,r',pl,hz⟩:=I.list hq
  have hlen:=r'.length
  refine call_tuple_list pl.isList (fun h' kp=>?_) (by simp only [qA] <;> omega)
  have I1:Inv X pins σ H { s with heap:=h' }:=I.kept (t':=s.toks) kp
  have I2:Inv X pins σ (upd H h'.objs.size (.tup ys)) { s with heap:=h'.push { cls:=.type "tuple",data:=.seq its.toArray } } :=
   I1.laid (t':=s.toks) (fun b o e=>qu _ e) (qw _) (show zcn X.prog X.w _ _ _ (.tup ys) from ⟨hz,its,r',IsTup.new _ _⟩)
  exact ⟨.ref h'.objs.size,_,I2,rfl,q _ (I1.hok.fresh (qw _))⟩
 ·obtain ⟨its,r',pl,hz⟩:=I.tuple hq
  exact call_tuple_same pl ⟨.ref p,H,I,rfl,q⟩
def tyV (K:PySem.W.Frag) (T:String) (x:V) (H:Hp):Prop:=match x with
 | .str _=>T="str"
 | .int _=>T="int"
 | .ref p=>(T="list"/\∃ xs,SqL K H p xs)\/(T="tuple"/\∃ o,K.lookup p=some o/\o.cls=.type "tuple"/\o.dict=none) \/
   (T="dict"/\((∃ kvs,H p=some (.dK kvs))\/∃ kvs,H p=some (.dT kvs)))\/(T="set"/\∃ S n,H p=some (.set S n))
 | _=>False
theorem zpr {pins:List (Addr×Obj)} {σ:St} {H:Hp} {s:Shared} {T:String} {x:V} {v:Value} (I:Inv X pins σ H s) (r:zca x v) (ty:tyV X.K T x H) :
  s.TypeIs v T/\∀ a,v=.ref a->∃ ob,s.heap.get? a=some ob/\ob.dict=none:=by
 cases x with
 | str z =>
  obtain ⟨t,rfl⟩:=r
  cases (show T="str" from ty)
  exact ⟨typeIs_str s z t,fun _ e=>nomatch e⟩
 | int i =>
  obtain ⟨t,rfl⟩:=r
  cases (show T="int" from ty)
  exact ⟨typeIs_int s i t,fun _ e=>nomatch e⟩
 | ref p =>
  cases r
  rcases ty with ⟨rfl,xs,hq⟩ | ⟨rfl,o,hk,hc,hd⟩ | ⟨rfl,hk⟩ | ⟨rfl,S,n,hk⟩
  ·obtain ⟨its,_,pl,_⟩:=I.list hq
   refine ⟨pl.isList.typeIs,fun a e=>?_⟩
   cases e
   obtain ⟨o,n,e,c,hd,_⟩:=pl
   exact ⟨o,e,hd⟩
  ·refine ⟨⟨o,I.kIn p o hk,hc⟩,fun a e=>?_⟩
   cases e
   exact ⟨o,I.kIn _ o hk,hd⟩
  ·have z:∃ o,s.heap.get? p=some o/\o.ExactDict:=by
    rcases hk with ⟨kvs,hk⟩ | ⟨kvs,hk⟩
    ·obtain ⟨_,_,_,_,o,_,_,e,ex,_⟩:=I.hok p _ hk
     exact ⟨o,e,ex⟩
    ·obtain ⟨_,_,_,_,o,_,_,e,ex,_⟩:=I.hok p _ hk
     exact ⟨o,e,ex⟩
   obtain ⟨o,e,ex⟩:=z
   refine ⟨⟨o,e,ex.1⟩,fun a e2=>?_⟩
   cases e2
   exact ⟨o,e,ex.2.1⟩
  ·obtain ⟨o,_,_,_,e,ex,_⟩:=I.hok p _ hk
   refine ⟨⟨o,e,ex.1⟩,fun a e2=>?_⟩
   cases e2
   exact ⟨o,e,ex.2.1⟩
 | _=>exact False.elim ty
def zvA (K:PySem.W.Frag) (T:String) (r:V->List V->Hp->VK->Prop) (to:TE):TE:=fun σ H Q=>to σ H fun x H1=>tyV K T x H1/\r x [] H1 Q
def tBM (K:PySem.W.Frag) (T:String) (r:V->List V->Hp->VK->Prop) (to:TE) (t:TA):TE:=fun σ H Q=>to σ H fun x H1=>tyV K T x H1/\t σ H1 fun xs H2=>r x xs H2 Q
variable {o e:Expr} {es:List Expr} {to:TE} {t:TA} {name:Str} {apos cpos:Pos} {T id:String} {r:V->List V->Hp->VK->Prop}
theorem zpE (pa:PlainAttrs T) (slot:Slot T name id) (hty:typeOf (.builtin id)=pure (.type "method_descriptor")) (hm:MtR X id r) (ho:PE X o to)
  (hbase:attributeBase o name X.env (eval o X.env)=eval o X.env:=by rfl) (hline:(apos.endLine==cpos.line)=true:=by rfl):PE X (.Call (.Attribute o name apos) [] [] cpos) (zvA X.K T r to):=by
 intro pins s σ H Q I h
 refine wpAny_Call_method0_late hbase hline (thn (ho pins s σ H _ I h) fun v s1 ⟨x,H1,I1,r1,ty,q1⟩=>?_)
 obtain ⟨h1,h2⟩:=zpr I1 r1 ty
 exact ⟨T,id,pa,slot,hty,h1,h2,Calls.callWith_builtin rfl (PySem.evalArgs_none (hm pins s1 σ H1 x [] v [] Q I1 r1 .nil q1))⟩
theorem zqM (pa:PlainAttrs T) (slot:Slot T name id) (hty:typeOf (.builtin id)=pure (.type "method_descriptor")) (hm:MtR X id r) (ho:PE X o to) (ha:PA X (e::es) t)
  (hbase:attributeBase o name X.env (eval o X.env)=eval o X.env:=by rfl)
  (hfew:((backTo cpos (starEach (e::es) X.env)).all (fun x=>!x.1) && (backToKw cpos (keywordEach [] X.env)).all (fun x=>x.1.isSome)
   && decide ((e::es).length+([]:List Keyword).length+(if ([]:List Keyword).isEmpty then 0 else 1) < 30))=true:=by rfl)
  (hline:(apos.endLine==cpos.line)=true:=by rfl) (hs:starEach (e::es) X.env=(false,eval e X.env)::starEach es X.env:=by rfl) (hplain:(backTo cpos (starEach es X.env)).any (·.1)=false:=by rfl) :
  PE X (.Call (.Attribute o name apos) (e::es) [] cpos) (tBM X.K T r to t):=by
 intro pins s σ H Q I h
 refine wpAny_Call_method_late hbase hfew hline rfl (thn (ho pins s σ H _ I h) fun v s1 ⟨x,H1,I1,r1,ty,q1⟩=>?_)
 obtain ⟨h1,h2⟩:=zpr I1 r1 ty
 refine ⟨T,id,pa,slot,hty,h1,h2,?_⟩
 have hA:=ha cpos pins s1 σ H1 _ I1 q1
 rw [hs] at hA ⊢
 refine Calls.callWith_builtin (by show (false || (backTo cpos (starEach es X.env)).any (·.1))=false;rw [hplain] <;> rfl) (Calls.evalArgs_plain ?_)
 exact thn hA fun us s2 ⟨vs,H2,I2,r2,q2⟩=>hm pins s2 σ H2 x vs v us Q I2 r1 r2 q2
end
end L2
namespace L2
open PySem PySem.Spec PyProof.Rows
def MtM (X:Cx) (id:String) (r:V->List V->Hp->VK->Prop):Prop :=
 ∀ (pins:List (Addr×Obj)) (s:Shared) (σ:St) (H:Hp) (x:V) (xs:List V) (v:Value) (us:List Value) (Q:VK),Inv X pins σ H s->zca x v->zbS xs us->r x xs H Q ->
  wpAny (model X.prog X.w) X.A (call (.builtin id) (v::us)) (EP X pins σ Q) X.xe s
theorem zbS.one:∀ {x:V} {us:List Value},zbS [x] us->∃ u,us=[u]/\zca x u
 | _,_,.cons r .nil=>⟨_,rfl,r⟩
theorem zbS.eraseIdx:∀ {xs:List V} {us:List Value} (i:Nat),zbS xs us->zbS (xs.eraseIdx i) (us.eraseIdx i)
 | _,_,_,.nil=>.nil
 | _,_,0,.cons _ t=>t
 | _,_,i+1,.cons r t=>.cons r (zbS.eraseIdx i t)
theorem zbS.reverse {xs:List V} {us:List Value} (h:zbS xs us):zbS xs.reverse us.reverse:=by
 induction h with
 | nil=>exact .nil
 | cons r t ih=>rw [List.reverse_cons,List.reverse_cons];exact zbS.append ih (.cons r .nil)
theorem zbS.rep {xs:List V} {us:List Value} (h:zbS xs us):∀ k:Nat,zbS (List.replicate k xs).flatten (List.replicate k us).flatten
 | 0=>.nil
 | k+1=>by
  rw [List.replicate_succ,List.replicate_succ,List.flatten_cons,List.flatten_cons]
  exact zbS.append h (zbS.rep h k)
theorem zjB {α:Type}:∀ (l:List α) (i:Nat),(l.eraseIdx i).length<=l.length
 | [],_=>qw _
 | _::_,0=>Nat.le_succ _
 | _::r,i+1=>Nat.succ_le_succ (zjB r i)
theorem zjL (its:List Value):∀ (k:Nat) (acc:List Value),
  List.foldl (fun x1 x2=>x1++x2) acc.toArray (List.replicate k its.toArray)=(acc++(List.replicate k its).flatten).toArray
 | 0,acc=>by simp
 | k+1,acc=>by
  have e:acc.toArray++its.toArray=(acc++its).toArray:=by simp
  have e2:(acc++its)++(List.replicate k its).flatten=acc++(List.replicate (k+1) its).flatten:=by
   rw [List.replicate_succ,List.flatten_cons,List.append_assoc]
  rw [← e2,← zjL its k (acc++its),← e,List.replicate_succ,List.foldl_cons]
section
variable {X:Cx} {pins:List (Addr×Obj)} {σ:St} {H:Hp} {s:Shared} {l b:Addr} {xs ys zs:List V}
theorem Inv.lset {its its':List Value} {n:Nat} {f:Array Value->Array Value} {t':Nat} (I:Inv X pins σ H s) (hH:H l=some (.lst xs))
  (e:s.heap.get? l=some { cls:=.type "list",data:=.seq its.toArray n }) (hf:f its.toArray=its'.toArray) (hv:zbS ys its') (hz:ys.length<=sizeLine) :
  Inv X pins σ (upd H l (.lst ys)) { s with heap:=s.heap.update l (Obj.mapSeq f),toks:=t' }:=by
 have q:=PySem.IsL.update e f
 rw [hf] at q
 refine I.write (x:=l) (e:=l) (by rw [hH];exact trivial) (.inl rfl) (fun b' u hb hu=>(Heap.get?_update_other s.heap (Obj.mapSeq f) (Ne.symm hb)).trans hu) ⟨_,q⟩ ?_
 exact ⟨hz,its',_,hv,q⟩
theorem Inv.lnew {its:List Value} {t':Nat} (I:Inv X pins σ H s) (hv:zbS ys its) (hz:ys.length<=sizeLine) :
  Inv X pins σ (upd H s.heap.objs.size (.lst ys)) { s with heap:=s.heap.push { cls:=.type "list",data:=.seq its.toArray },toks:=t' } :=
 I.laid (fun _ _ q=>qu _ q) (qw _) ⟨hz,its,0,hv,qF _ rfl⟩
theorem Inv.fresh (I:Inv X pins σ H s):H s.heap.objs.size=none:=I.hok.fresh (qw _)
theorem Inv.lstM (I:Inv X pins σ H s) (hH:H l=some (.lst xs)):xs.length<=sizeLine/\∃ (its:List Value) (n:Nat),zbS xs its/\xs.length=its.length/\s.heap.get? l=some { cls:=.type "list",data:=.seq its.toArray n }:=by
 obtain ⟨z,its,n,r,e⟩:=I.hok l _ hH
 exact ⟨z,its,n,r,r.length,e⟩
theorem zk7 {n:Nat} (h:n<=sizeLine):Builtin.List.listTooLong n=false:=by
 unfold Builtin.List.listTooLong
 exact qL (by omega)
end
section
variable {X:Cx}
def zqs:V->List V->Hp->VK->Prop:=fun x vs H Q=>∃ l xs y,x=.ref l/\vs=[y]/\H l=some (.lst xs)/\xs.length < sizeLine/\Q .non (upd H l (.lst (xs++[y])))
theorem zjy:MtM X "list.append" zqs:=by
 intro pins s σ H x vs v us Q I rx rv h
 obtain ⟨l,xs,y,rfl,rfl,hH,hz,q⟩:=h
 cases rx
 obtain ⟨u,rfl,ru⟩:=rv.one
 obtain ⟨z,its,n,r,hl,e⟩:=I.lstM hH
 refine call_meets F.slot_list_append ⟨_,e,rfl⟩ F.entry_list_append (F.args_list_append_2 _ _) (PySem.list_append l its.toArray n u (by rw [qA];omega)) ⟨e,?_⟩
 refine ⟨.non,_,I.lset (its':=its++[u]) hH e (by simp) (r.append (.cons ru .nil)) ?_,rfl,q⟩
 rw [qk,List.length_singleton]
 omega
def zqr:V->List V->Hp->VK->Prop:=fun x vs H Q=>∃ l b xs zs,x=.ref l/\vs=[.ref b]/\H l=some (.lst xs)/\H b=some (.lst zs)/\xs.length+zs.length<=sizeLine/\Q .non (upd H l (.lst (xs++zs)))
theorem zmU:MtM X "list.extend" zqr:=by
 intro pins s σ H x vs v us Q I rx rv h
 obtain ⟨l,b,xs,zs,rfl,rfl,hH,hB,hz,q⟩:=h
 cases rx
 obtain ⟨u,rfl,ru⟩:=rv.one
 cases ru
 obtain ⟨z,its,n,r,hl,e⟩:=I.lstM hH
 obtain ⟨z2,its2,n2,r2,hl2,e2⟩:=I.lstM hB
 have hsz:its.toArray.size+its2.toArray.size<=sizeLine:=by rw [qA,qA];omega
 have hlong:¬ (!its.toArray.isEmpty && Builtin.List.listTooLong (its.toArray.size+its2.toArray.size))=true:=by
  rw [zk7 hsz,Bool.and_false]
  exact qt
 refine call_meets F.slot_list_extend ⟨_,e,rfl⟩ F.entry_list_extend (F.args_list_extend_2 _ _)
  (AutoSeq1.list_extend_list_list_0 l its.toArray n b its2.toArray n2 hlong (by rw [qA];omega) (by omega)) ⟨e,e2,?_⟩
 refine ⟨.non,_,I.lset (its':=its++its2) hH e (by simp) (r.append r2) ?_,rfl,q⟩
 rw [qk]
 omega
def zsz:V->List V->Hp->VK->Prop:=fun x vs H Q=>∃ l xs i k y,x=.ref l/\vs=[.int i]/\H l=some (.lst xs) /\ -(2 ^ 63)<=i/\i < 2 ^ 63/\seqIndex? i xs.length=some k/\xs[k]?=some y/\Q y (upd H l (.lst (xs.eraseIdx k)))
theorem zoI:MtM X "list.pop" zsz:=by
 intro pins s σ H x vs v us Q I rx rv h
 obtain ⟨l,xs,i,k,y,rfl,rfl,hH,h1,h2,hk,hy,q⟩:=h
 cases rx
 obtain ⟨u,rfl,ru⟩:=rv.one
 obtain ⟨t,rfl⟩:=ru
 obtain ⟨z,its,n,r,hl,e⟩:=I.lstM hH
 obtain ⟨w,hw,rw'⟩:=r.get hy
 refine call_meets F.slot_list_pop ⟨_,e,rfl⟩ F.entry_list_pop (F.args_list_pop_2 _ _)
  (MeetsSeq.list_pop_at l its.toArray n i t k w (fitsIndex_both h1 h2) (by rw [qA,← hl];exact hk) (by rw [← Array.getElem?_toList];exact hw) (by rw [qA];omega)) ⟨e,?_⟩
 refine ⟨y,_,I.lset (its':=its.eraseIdx k) hH e ?_ (r.eraseIdx k) ?_,rw',q⟩
 ·show its.toArray.eraseIdxIfInBounds k=(its.eraseIdx k).toArray
  rw [List.eraseIdxIfInBounds_toArray]
 ·have:=zjB xs k
  omega
def zuj:R2:=fun x y H Q=>∃ l b xs zs,x=.ref l/\y=.ref b/\H l=some (.lst xs)/\H b=some (.lst zs)/\xs.length+zs.length<=sizeLine/\∀ p,H p=none->Q (.ref p) (upd H p (.lst (xs++zs)))
theorem zs5:OpR X (binaryOp .Add) zuj:=by
 intro pins s σ H x y v u Q I rx ry h
 obtain ⟨l,b,xs,zs,rfl,rfl,hH,hB,hz,q⟩:=h
 cases rx
 cases ry
 obtain ⟨z,its,n,r,hl,e⟩:=I.lstM hH
 obtain ⟨z2,its2,n2,r2,hl2,e2⟩:=I.lstM hB
 refine PySem.P.add_list e e2 ?_ (by rw [qA,qA];omega)
 have ea:its.toArray++its2.toArray=(its++its2).toArray:=by simp
 rw [ea]
 exact ⟨.ref _,_,I.lnew (t':=s.toks) (r.append r2) (by rw [qk];omega),rfl,q _ I.fresh⟩
def zu5:R2:=fun x y H Q=>∃ l k xs,x=.ref l/\y=.int k/\H l=some (.lst xs) /\ -(2 ^ 63)<=k/\k < 2 ^ 63/\xs.length*k.toNat<=sizeLine /\
 ∀ p,H p=none->Q (.ref p) (upd H p (.lst (List.replicate k.toNat xs).flatten))
theorem zm8 {α:Type} (xs:List α) (k:Nat):(List.replicate k xs).flatten.length=k*xs.length:=by
 induction k with
 | zero=>simp
 | succ k ih=>rw [List.replicate_succ,List.flatten_cons,qk,ih,Nat.succ_mul,Nat.add_comm]
theorem zsW:OpR X (binaryOp .Mult) zu5:=by
 intro pins s σ H x y v u Q I rx ry h
 obtain ⟨l,k,xs,rfl,rfl,hH,h1,h2,hz,q⟩:=h
 cases rx
 obtain ⟨t,rfl⟩:=ry
 obtain ⟨z,its,n,r,hl,e⟩:=I.lstM hH
 have hlen:its.toArray.size*k.toNat<=sizeLine:=by rw [qA,← hl];exact hz
 have hcap:¬ its.toArray.size*k.toNat > (2 ^ 63 - 1) / 8:=by
  have:(sizeLine:Nat)<=(2 ^ 63 - 1) / 8:=by decide
  omega
 have hfit:¬ (!Builtin.List.listFitsIndex k)=true:=by
  rw [fitsIndex_both h1 h2]
  exact qt
 have hlong:¬ Builtin.List.listTooLong (its.toArray.size*k.toNat)=true:=by
  rw [zk7 hlen]
  exact qt
 have hnew:List.foldl (fun x1 x2=>x1++x2) #[] (List.replicate (if its.toArray.isEmpty=true then 0 else k.toNat) its.toArray)=(List.replicate k.toNat its).flatten.toArray:=by
  have f0:∀ m:Nat,List.foldl (fun x1 x2=>x1++x2) #[] (List.replicate m its.toArray)=(List.replicate m its).flatten.toArray:=fun m=>by
   have:=zjL its m []
   rw [qP] at this
   exact this
  rw [f0]
  cases its with
  | nil=>simp
  | cons a r'=>rw [qV (by simp)]
 refine wpAny_binaryOp_repeat_ref (T:="list") (U:="int") (by decide) ⟨_,e,rfl⟩ (fun s'=>typeIs_int s' k t) noFill_list_mul F.fills_int_mul F.slot_int_rmul repeat_list F.slot_int_index.lookup
  (call_meets F.slot_int_rmul (typeIs_int s k t) F.entry_int_rmul (F.args_int_rmul_2 _ _) (int___rmul___int_list k t l its.toArray n)
   ⟨e,rfl,⟨_,e,rfl⟩,call_meets F.slot_list_mul ⟨_,e,rfl⟩ F.entry_list_mul (F.args_list_mul_2 _ _) (AutoListH.list___mul___list_int_3 l its.toArray n k t hfit hcap hlong) ⟨e,?_⟩⟩)
 rw [hnew]
 exact ⟨.ref _,_,I.lnew (t':=s.toks) (r.rep k.toNat) (by rw [zm8,Nat.mul_comm];exact hz),rfl,q _ I.fresh⟩
end
section
variable {prog:Program} {w:World} {A:Around} {E:Value->Shared->Prop} {s:Shared}
end
section
variable {X:Cx}
end
end L2
end
section
namespace L2
open PySem PySem.Spec PyProof.Rows
section
variable {κ:Type} [DecidableEq κ]
def zkS (kvs:List (κ×V)) (k:κ):Option V:=(kvs.find? fun kv=>decide (kv.1=k)).map (·.2)
def zhK (kvs:List (κ×V)) (k:κ) (v:V):List (κ×V) :=
 if (kvs.any fun kv=>decide (kv.1=k))=true then kvs.map (fun kv=>if kv.1=k then (kv.1,v) else kv) else kvs++[(k,v)]
theorem zgJ {p:κ×V} {r:List (κ×V)} {k:κ} (e:p.1=k):zkS (p::r) k=some p.2:=by simp [zkS,List.find?_cons,e]
theorem zgK {p:κ×V} {r:List (κ×V)} {k:κ} (e:¬ p.1=k):zkS (p::r) k=zkS r k:=by simp [zkS,List.find?_cons,e]
theorem zkR (k:κ):∀ kvs:List (κ×V),(kvs.any fun kv=>decide (kv.1=k))=(zkS kvs k).isSome
 | []=>rfl
 | p::r=>by
  rw [List.any_cons]
  by_cases e:p.1=k
  ·simp only [zgJ e,qQ e,Bool.true_or,Option.isSome_some]
  ·rw [zgK e,qL e,Bool.false_or];exact zkR k r
theorem zg7 (kvs:List (κ×V)) (k:κ) (v:V):(zhK kvs k v).length<=kvs.length+1:=by
 unfold zhK
 split
 ·rw [qg];omega
 ·rw [qk,qj,qo];omega
theorem zim.isSome_eq {o:Option V} {u:Option Value} (r:zim o u):o.isSome=u.isSome:=by
 cases o with
 | none=>cases u with
  | none=>rfl
  | some _=>exact (show False from r).elim
 | some _=>cases u with
  | none=>exact (show False from r).elim
  | some _=>rfl
theorem zim.getD {o:Option V} {u:Option Value} {d:V} {d':Value} (r:zim o u) (rd:zca d d'):zca (o.getD d) (u.getD d'):=by
 cases o with
 | none=>cases u with
  | none=>exact rd
  | some _=>exact (show False from r).elim
 | some _=>cases u with
  | none=>exact (show False from r).elim
  | some _=>exact r
theorem KV.val {kvs:List (κ×V)} {vs:List (κ×Value)} (r:KV kvs vs) (k:κ):zim (zkS kvs k) (valueAt vs k):=by
 unfold KV at r
 induction r with
 | nil=>exact True.intro
 | @cons p q ps qs h t ih =>
  obtain ⟨h1,h2⟩:=h
  by_cases e:p.1=k
  ·have e':q.1=k:=h1.symm.trans e
   have b:valueAt (q::qs) k=some q.2:=by simp [valueAt,List.find?_cons,e']
   rw [zgJ e,b];exact h2
  ·have e':¬ q.1=k:=fun z=>e (h1.trans z)
   have b:valueAt (q::qs) k=valueAt qs k:=by simp [valueAt,List.find?_cons,e']
   rw [zgK e,b];exact ih
theorem KV.any {kvs:List (κ×V)} {vs:List (κ×Value)} (r:KV kvs vs) (k:κ):(kvs.any fun kv=>decide (kv.1=k))=vs.any fun kv=>decide (kv.1=k):=by
 unfold KV at r
 induction r with
 | nil=>rfl
 | cons h t ih=>rw [List.any_cons,List.any_cons,ih,h.1]
theorem KV.repl {kvs:List (κ×V)} {vs:List (κ×Value)} (r:KV kvs vs) (k:κ) {y:V} {u:Value} (ry:zca y u) :
  KV (kvs.map fun kv=>if kv.1=k then (kv.1,y) else kv) (vs.map fun kv=>if kv.1=k then (kv.1,u) else kv):=by
 unfold KV at r ⊢
 induction r with
 | nil=>exact .nil
 | @cons p q ps qs h t ih =>
  rw [qp,qp]
  refine .cons ?_ ih
  obtain ⟨h1,h2⟩:=h
  by_cases e:p.1=k
  ·rw [qU e,qU (h1.symm.trans e)];exact ⟨h1,ry⟩
  ·rw [qV e,qV (fun z=>e (h1.trans z))];exact ⟨h1,h2⟩
theorem KV.put {kvs:List (κ×V)} {vs:List (κ×Value)} (r:KV kvs vs) (k:κ) {y:V} {u:Value} (ry:zca y u):KV (zhK kvs k y) (stored vs k u):=by
 unfold zhK stored
 rw [r.any k]
 by_cases e:(vs.any fun kv=>decide (kv.1=k))=true
 ·rw [qU e,qU e];exact r.repl k ry
 ·rw [qV e,qV e];exact Paired.snoc r ⟨rfl,ry⟩
theorem KV.keys {kvs:List (κ×V)} {vs:List (κ×Value)} (r:KV kvs vs):kvs.map (·.1)=vs.map (·.1):=by
 unfold KV at r
 induction r with
 | nil=>rfl
 | cons h t ih=>rw [qp,qp,ih,h.1]
theorem KV.length {kvs:List (κ×V)} {vs:List (κ×Value)} (r:KV kvs vs):kvs.length=vs.length:=Paired.length r
end
theorem zjE {P:Program} {w:World} {k:Key} {u:Value} (r:zca (kV k) u):(zaM P w).is k u=true:=by
 cases k with
 | inl i=>obtain ⟨t,e⟩:=(show ∃ t,u=Value.int i t from r);subst e;exact zko P w i t
 | inr x=>obtain ⟨t,e⟩:=(show ∃ t,u=Value.str x t from r);subst e;exact zkn P w x t
theorem zjF {P:Program} {w:World}:∀ {ks:List Key} {us:List Value},zbS (ks.map kV) us->ItemsAre (zaM P w) ks us
 | [],_,r=>by rw [qM] at r;cases r;exact .nil
 | k::ks,_,r=>by
  rw [qp] at r
  cases r with
  | cons h t=>exact .cons (zjE h) (zjF t)
abbrev KT (H:Hp):List (List Key×V)->List (List Key×Addr×Value)->Prop:=Paired fun p q=>p.1=q.1/\H q.2.1=some (.tup (p.1.map kV))/\zca p.2 q.2.2
theorem KT.val {H:Hp} {kvs:List (List Key×V)} {xs:List (List Key×Addr×Value)} (r:KT H kvs xs) (k:List Key):zim (zkS kvs k) ((atKey xs k).map (·.2)):=by
 induction r with
 | nil=>exact True.intro
 | @cons p q ps qs h t ih =>
  obtain ⟨h1,_,h2⟩:=h
  by_cases e:p.1=k
  ·have e':q.1=k:=h1.symm.trans e
   have b:atKey (q::qs) k=some q.2:=by simp [atKey,List.find?_cons,e']
   rw [zgJ e,b];exact h2
  ·have e':¬ q.1=k:=fun z=>e (h1.trans z)
   have b:atKey (q::qs) k=atKey qs k:=by simp [atKey,List.find?_cons,e']
   rw [zgK e,b];exact ih
theorem KT.repl {H:Hp} {kvs:List (List Key×V)} {xs:List (List Key×Addr×Value)} (r:KT H kvs xs) (k:List Key) {y:V} {u:Value} (ry:zca y u) :
  KT H (kvs.map fun kv=>if kv.1=k then (kv.1,y) else kv) (xs.map (putAt k u)):=by
 induction r with
 | nil=>exact .nil
 | @cons p q ps qs h t ih =>
  rw [qp,qp]
  refine .cons ?_ ih
  obtain ⟨h1,h2,h3⟩:=h
  unfold putAt
  by_cases e:p.1=k
  ·rw [qU e,qU (h1.symm.trans e)];exact ⟨h1,h2,ry⟩
  ·rw [qV e,qV (fun z=>e (h1.trans z))];exact ⟨h1,h2,h3⟩
theorem KT.put {H:Hp} {kvs:List (List Key×V)} {xs:List (List Key×Addr×Value)} (r:KT H kvs xs) (k:List Key) {b:Addr} {y:V} {u:Value} (hb:H b=some (.tup (k.map kV))) (ry:zca y u) :
  KT H (zhK kvs k y) (storedH xs k b u):=by
 have e:(kvs.any fun kv=>decide (kv.1=k))=(atKey xs k).isSome:=by
  rw [zkR,(r.val k).isSome_eq,Option.isSome_map]
 unfold zhK storedH
 rw [e]
 by_cases q:(atKey xs k).isSome=true
 ·rw [qU q,qU q];exact r.repl k ry
 ·rw [qV q,qV q];exact Paired.snoc r ⟨rfl,hb,ry⟩
theorem KT.keeps {H H':Hp} {kvs:List (List Key×V)} {xs:List (List Key×Addr×Value)} (r:KT H kvs xs) (ht:∀ b ys,H b=some (.tup ys)->H' b=some (.tup ys)):KT H' kvs xs :=
 Paired.mapP r fun _ _ z=>⟨z.1,ht _ _ z.2.1,z.2.2⟩
section
variable {P:Program} {w:World} {H:Hp} {h:Heap} {a:Addr}
theorem zsy {u:HO} (ok:HOk P w H h) (e:Rd H a u):zcn P w H h a u:=e.ok ok
theorem ziT {kvs:List (Key×V)} (ok:HOk P w H h) (e:Rd H a (.dK kvs)):kvs.length<=sizeLine/\(a==sysModules)=false/\∃ vs,KV kvs vs/\h.DictOf (zaM P w) a vs :=
 show zcn P w H h a (.dK kvs) from zsy ok e
theorem zkv {kvs:List (Key×V)} (ok:HOk P w H h) (e:H a=some (.dK kvs)):kvs.length<=sizeLine/\(a==sysModules)=false/\∃ vs,KV kvs vs/\h.DictOf (zaM P w) a vs:=ziT ok (.inl e)
theorem zha {ks:List Key} (ok:HOk P w H h) (e:H a=some (.tup (ks.map kV))):(tupleKind (zaM P w)).is h ks a:=by
 obtain ⟨_,its,r,o,h1,h2,n,h3⟩:=(show zcn P w H h a (.tup (ks.map kV)) from ok a _ e)
 exact ⟨o,its.toArray,n,h1,h2,h3,by simpa using zjF r⟩
theorem zku {kvs:List (List Key×V)} (ok:HOk P w H h) (e:Rd H a (.dT kvs)):kvs.length<=sizeLine/\(a==sysModules)=false /\
  ∃ xs,KT H kvs xs/\h.DictOfH (tupleKind (zaM P w)) a xs:=by
 obtain ⟨z,y,xs,r,o,es,ep,h1,h2,h3,h4,h5⟩:=(show zcn P w H h a (.dT kvs) from zsy ok e)
 refine ⟨z,y,xs,r,o,es,ep,h1,h2,h3,h4,fun x hx=>?_,h5⟩
 have all:∀ {l:List (List Key×V)} {m:List (List Key×Addr×Value)},KT H l m->∀ x∈m,(tupleKind (zaM P w)).is h x.1 x.2.1:=by
  intro l m q
  induction q with
  | nil=>intro x hx;exact nomatch hx
  | @cons p q ps qs hq t ih =>
   intro x hx
   rcases List.mem_cons.mp hx with e | hx
   ·subst e
    exact zha ok (by rw [← hq.1];exact hq.2.1)
   ·exact ih x hx
 exact all r x hx
theorem zuL {kvs:List (List Key×V)} (ok:HOk P w H h) (e:H a=some (.dT kvs)):kvs.length<=sizeLine/\(a==sysModules)=false /\
  ∃ xs,KT H kvs xs/\h.DictOfH (tupleKind (zaM P w)) a xs:=zku ok (.inl e)
end
def zkM (H:Hp) (a:Addr) (y:V) (r:Option V):Prop :=
 (∃ kvs k,Rd H a (.dK kvs)/\y=kV k/\r=zkS kvs k)\/∃ kvs k b,Rd H a (.dT kvs)/\y=.ref b/\H b=some (.tup (k.map kV))/\r=zkS kvs k
def zp2 (H:Hp) (a:Addr) (y v:V) (H':Hp):Prop :=
 (∃ kvs k,H a=some (.dK kvs)/\y=kV k/\kvs.length < sizeLine/\H'=upd H a (.dK (zhK kvs k v))) \/
 ∃ kvs k b,H a=some (.dT kvs)/\y=.ref b/\H b=some (.tup (k.map kV))/\kvs.length < sizeLine/\H'=upd H a (.dT (zhK kvs k v))
theorem zkM.k {H:Hp} {a:Addr} {kvs:List (Key×V)} {k:Key} (e:H a=some (.dK kvs)):zkM H a (kV k) (zkS kvs k):=.inl ⟨kvs,k,.inl e,rfl,rfl⟩
theorem zkM.t {H:Hp} {a b:Addr} {kvs:List (List Key×V)} {k:List Key} (e:H a=some (.dT kvs)) (eb:H b=some (.tup (k.map kV))):zkM H a (.ref b) (zkS kvs k):=.inr ⟨kvs,k,b,.inl e,rfl,eb,rfl⟩
theorem zp2.k {H:Hp} {a:Addr} {kvs:List (Key×V)} {k:Key} {v:V} (e:H a=some (.dK kvs)) (hl:kvs.length < sizeLine):zp2 H a (kV k) v (upd H a (.dK (zhK kvs k v))):=.inl ⟨kvs,k,e,rfl,hl,rfl⟩
theorem zp2.t {H:Hp} {a b:Addr} {kvs:List (List Key×V)} {k:List Key} {v:V} (e:H a=some (.dT kvs)) (eb:H b=some (.tup (k.map kV))) (hl:kvs.length < sizeLine) :
  zp2 H a (.ref b) v (upd H a (.dT (zhK kvs k v))):=.inr ⟨kvs,k,b,e,rfl,eb,hl,rfl⟩
section
variable {X:Cx} {pins:List (Addr×Obj)} {σ:St} {H:Hp} {s:Shared} {a:Addr} {y v:V} {u r:Value} {o:Option V} {A:Around} {E:Value->Shared->Prop}
theorem Inv.big (I:Inv X pins σ H s):sysModules < s.heap.objs.size:=by
 have h:mainGlobals < s.heap.objs.size:=(I.mod.glob.keeps I.bk).lt
 exact Nat.lt_trans (by decide) h
theorem znJ {Q:Value->Shared->Prop} (hu:A.units+1 < cLine) (I:Inv X pins σ H s) (g:zkM H a y (some v)) (ry:zca y u) (h:∀ w' s',Inv X pins σ H s'->zca v w'->Q w' s') :
  wpAny (model X.prog X.w) A (getItem (.ref a) u) Q E s:=by
 rcases g with ⟨kvs,k,e,ey,l⟩ | ⟨kvs,k,b,e,ey,eb,l⟩
 ·subst ey
  obtain ⟨z,hd,vs,rel,dd⟩:=ziT I.hok e
  obtain ⟨w',hw,rw'⟩:=zim.some_of (v:=v) (o:=valueAt vs k) (by rw [l];exact rel.val k)
  exact wpAny_getItem_of (zjE ry) dd.mapOf hw (h w' _ (I.tok _) rw')
 ·subst ey
  cases (show u=Value.ref b from ry)
  obtain ⟨z,hd,xs,rel,dd⟩:=zku I.hok e
  obtain ⟨w',hw,rw'⟩:=zim.some_of (v:=v) (o:=(atKey xs k).map (·.2)) (by rw [l];exact rel.val k)
  obtain ⟨p,hp,hp2⟩:=oMd hw
  refine wpAny_getItem_heap (tupleKind_room_in1 hu) (zha I.hok eb) dd hp ?_
  rw [hp2]
  exact h w' _ (I.tok _) rw'
theorem zrD {Q:Value->Shared->Prop} (hu:A.units+1 < cLine) (I:Inv X pins σ H s) (g:zkM H a y o) (ry:zca y u) (h:∀ s',Inv X pins σ H s'->Q (.bool (!o.isSome)) s') :
  wpAny (model X.prog X.w) A (compareOp .NotIn u (.ref a)) Q E s:=by
 rcases g with ⟨kvs,k,e,ey,l⟩ | ⟨kvs,k,b,e,ey,eb,l⟩
 ·subst ey
  obtain ⟨z,hd,vs,rel,dd⟩:=ziT I.hok e
  refine wpAny_notIn_of (zjE ry) hd dd.mapOf ?_
  rw [← (rel.val k).isSome_eq,← l]
  exact h _ (I.tok _)
 ·subst ey
  cases (show u=Value.ref b from ry)
  obtain ⟨z,hd,xs,rel,dd⟩:=zku I.hok e
  refine wpAny_notIn_heap (tupleKind_room_in1 hu) (zha I.hok eb) hd dd ?_
  have q:=(rel.val k).isSome_eq
  rw [Option.isSome_map] at q
  rw [← q,← l]
  exact h _ (I.tok _)
theorem zkz {h':Heap} {t':Nat} {ob:HO} (I:Inv X pins σ H s) (mu:Mut (H a)) (hs:Heap.SameBut a s.heap h') (he:∃ q,h'.get? a=some q) (new:zcn X.prog X.w (upd H a ob) h' a ob) :
  Inv X pins σ (upd H a ob) { s with heap:=h',toks:=t' } :=
 I.write (x:=a) (e:=a) mu (.inl rfl) (fun b q hb z=>(hs.2 b hb).trans z) he new
theorem zpQ {P:Program} {w:World} {H':Hp} {h':Heap} {kvs:List (Key×V)} {vs:List (Key×Value)} (z:kvs.length<=sizeLine) (hd:(a==sysModules)=false) (rel:KV kvs vs) (dd:h'.DictOf (zaM P w) a vs) :
  zcn P w H' h' a (.dK kvs):=⟨z,hd,vs,rel,dd⟩
theorem znI {H':Hp} {Q:Unit->Shared->Prop} (hu:A.units+1 < cLine) (I:Inv X pins σ H s) (g:zp2 H a y v H') (ry:zca y u) (rv:zca v r) (h:∀ s',Inv X pins σ H' s'->Q () s') :
  wpAny (model X.prog X.w) A (setItem (.ref a) u r) Q E s:=by
 rcases g with ⟨kvs,k,e,ey,l,eH⟩ | ⟨kvs,k,b,e,ey,eb,l,eH⟩
 ·subst ey eH
  obtain ⟨z,hd,vs,rel,dd⟩:=zkv I.hok e
  have hz:vs.length<=sizeLine:=by rw [← rel.length];exact z
  have hl:(zhK kvs k v).length<=sizeLine:=by have:=zg7 kvs k v;omega
  refine wpAny_setItem_pairs (hsz:=hz) (zjE ry) dd fun h' dd' hs=>h _ ?_
  have he:∃ q,h'.get? a=some q:=let ⟨q,_,_,hq,_⟩:=dd';⟨q,hq⟩
  exact zkz I (by rw [e];exact True.intro) hs he (zpQ hl hd (rel.put k rv) dd')
 ·subst ey eH
  cases (show u=Value.ref b from ry)
  obtain ⟨z,hd,xs,rel,dd⟩:=zuL I.hok e
  have hz:xs.length<=sizeLine:=by rw [← Paired.length rel];exact z
  have hl:(zhK kvs k v).length<=sizeLine:=by have:=zg7 kvs k v;omega
  refine wpAny_setItem_heap (hsz:=hz) (tupleKind_room_in1 hu) (zha I.hok eb) dd fun h' dd' hs=>h _ ?_
  obtain ⟨q,es,ep,hq,h2,h3,h4,_,h5⟩:=dd'
  refine zkz I (by rw [e];exact True.intro) hs ⟨q,hq⟩ ⟨hl,hd,_,(rel.put k eb rv).keeps fun c ys ec=>?_,q,es,ep,hq,h2,h3,h4,h5⟩
  rw [zap (zs8 ec e (fun z=>nomatch z))]
  exact ec
end
section
variable {X:Cx} {pins:List (Addr×Obj)} {σ:St} {H:Hp} {s:Shared} {a:Addr} {kvs:List (Key×V)} {k:Key} {u:Value} {A:Around} {E:Value->Shared->Prop}
theorem zrE {Q:Value->Shared->Prop} (I:Inv X pins σ H s) (e:H a=some (.dK kvs)) (h:∀ s',Inv X pins σ (upd H a (.dK [])) s'->Q .none s'):wpAny (model X.prog X.w) A (call (.builtin "dict.clear") [.ref a]) Q E s:=by
 obtain ⟨z,hd,vs,rel,dd⟩:=zkv I.hok e
 refine call_meetsIn PySem.F.slot_dict_clear dd.typeIs PySem.F.entry_dict_clear (PySem.F.args_dict_clear_1 _) (meets_dict_clear (zaM X.prog X.w) a) ⟨vs,dd,by rw [← rel.length];exact z,fun h' dd' hs=>h _ ?_⟩
 have he:∃ q,h'.get? a=some q:=let ⟨q,_,_,hq,_⟩:=dd';⟨q,hq⟩
 exact zkz (t':=s.toks) I (by rw [e];exact True.intro) hs he (zpQ (Nat.zero_le _) hd .nil dd')
end
def zuV (i:Expr):Prop:=∀ ov iv,subscripted i false ov iv=operate [ov,iv] (getItem ov iv)
theorem zp9 {prog:Program} {w:World} {A:Around} {E:Value->Shared->Prop} {s:Shared} {env:Env} {value slice:Expr} {pos:Pos} {T id:String} {Q:Value->Shared->Prop}
  (hl:typeLookup (.type T) "__getitem__"=pure (some (.builtin id))) (hs:zuV slice)
  (h:wpAny (model prog w) A (eval value env) (fun o s₁=>wpAny (model prog w) A (eval slice env) (fun i s₂=>s₂.TypeIs o T/\wpAny (model prog w) A (getItem o i) Q E s₂) E s₁) E s) :
  wpAny (model prog w) A (eval (.Subscript value slice pos) env) Q E s:=by
 refine Subscript_ (wpAny_mono h (fun o s₁ h₁=>wpAny_mono h₁ (fun i s₂ h₂=>?_) fun _ _ x=>x) fun _ _ x=>x)
 obtain ⟨hT,h₂⟩:=h₂
 unfold subscriptTail
 refine qx ?_
 rw [getitemInPython_of_ne hT.not_modules]
 refine qx (wpAny_specialOf hT hl ?_)
 have fin:wpAny (model prog w) A (subscripted slice false o i) (fun r s₃=>wpAny (model prog w) A (letTemporaryGo value o r >>= fun _=>pure r) Q E s₃) E s₂:=by
  rw [hs o i]
  exact wpAny_operating (wpAny_mono h₂ (fun r s₃ h₃=>qx (wpAny_letTemporaryGo (qz h₃))) fun _ _ x=>x)
 first
  | exact qz (qx fin)
  | exact qx (qz (qx fin))
  | exact qx fin
theorem zkx {X:Cx} {pins:List (Addr×Obj)} {σ:St} {H:Hp} {s:Shared} {a:Addr} {y:V} {o:Option V} (I:Inv X pins σ H s) (g:zkM H a y o):s.TypeIs (.ref a) "dict":=by
 rcases g with ⟨kvs,k,e,_,_⟩ | ⟨kvs,k,b,e,_,_,_⟩
 ·obtain ⟨_,_,vs,_,dd⟩:=ziT I.hok e
  exact dd.typeIs
 ·obtain ⟨_,_,xs,_,dd⟩:=zku I.hok e
  exact dd.typeIs
def zua (td ty:TE):TE:=fun σ H Q=>td σ H fun x H1=>ty σ H1 fun y H2=>∃ a v,x=.ref a/\zkM H2 a y (some v)/\Q v H2
def zuh (td ty tv:TE):TS:=fun D σ H=>tv σ H fun v H1=>td σ H1 fun x H2=>ty σ H2 fun y H3=>∃ a H4,x=.ref a/\zp2 H3 a y v H4/\D.nx σ H4
section
variable {X:Cx} {o i e value:Expr} {pos pos' tpos:Pos} {td ty tv:TE}
theorem zqK (hu:X.A.units+1 < cLine) (ho:PE X o td) (hi:PE X i ty) (hs:zuV i):PE X (.Subscript o i pos) (zua td ty):=by
 intro pins s σ H Q I h
 refine zp9 PySem.F.slot_dict_getitem.lookup hs (thn (ho pins s σ H _ I h) fun u s1 ⟨x,H1,I1,rx,q1⟩=>thn (hi pins s1 σ H1 _ I1 q1) fun iv s2 ⟨y,H2,I2,ry,a,v,ex,g,q2⟩=>?_)
 subst ex
 obtain rfl:u=Value.ref a:=rx
 exact ⟨zkx I2 g,znJ hu I2 g ry fun w' s3 I3 rw'=>⟨v,H2,I3,rw',q2⟩⟩
theorem zqz (hu:X.A.units+1 < cLine) (ho:PE X o td) (hi:PE X i ty) (hv:PE X value tv) (hs:swapsWith value (some (.Subscript o i pos')) pos.line X.env=pure false) :
  PS X (.Assign [.Subscript o i pos'] value pos) (zuh td ty tv):=by
 intro pins s σ H D I h
 refine wpAny_Assign_Subscript (thn (hv pins s σ H _ I h) fun r s1 ⟨v,H1,I1,rv,q1⟩=>thn (ho pins s1 σ H1 _ I1 q1) fun u s2 ⟨x,H2,I2,rx,q2⟩=>thn (hi pins s2 σ H2 _ I2 q2) fun iv s3 ⟨y,H3,I3,ry,a,H4,ex,g,q3⟩=>?_) hs
 subst ex
 obtain rfl:u=Value.ref a:=rx
 exact znI hu I3 g ry rv fun s4 I4=>⟨σ,H4,I4,q3⟩
end
theorem zo5 {P:Program} {w:World} {H:Hp} (h:Heap) (hb:sysModules < h.objs.size):zcn P w H (h.push { cls:=.type "dict",data:=.dict #[] }) h.objs.size (.dK []) :=
 ⟨Nat.zero_le _,beq_eq_false_iff_ne.mpr (Ne.symm (qB hb)),[],.nil,Heap.DictOf.new h⟩
def zsj:TE:=fun _ H Q=>∀ p,H p=none->Q (.ref p) (upd H p (.dK []))
section
variable {X:Cx} {pos:Pos}
theorem zk6:PE X (.Dict [] [] pos) zsj:=fun pins s σ H Q I h =>
 wpAny_Dict_empty ⟨.ref s.heap.objs.size,_,I.laid (a:=s.heap.objs.size) (o:=.dK []) (t':=s.toks) (fun _ _ q=>qu _ q) (qw _) (zo5 s.heap I.big),rfl,h _ (I.hok.fresh (qw _))⟩
end
structure M1 (X:Cx) (o:Expr) (m:Str) (apos:Pos) (e:Expr) (cpos:Pos):Prop where
 base:attributeBase o m X.env (eval o X.env)=eval o X.env
 few:((backTo cpos (starEach [e] X.env)).all (fun x=>!x.1) && (backToKw cpos (keywordEach [] X.env)).all (fun x=>x.1.isSome)
  && decide (([e]:List Expr).length+([]:List Keyword).length+(if ([]:List Keyword).isEmpty then 0 else 1) < 30))=true
 line:(apos.endLine==cpos.line)=true
 trees:backTo cpos (starEach [e] X.env)=[(false,eval e X.env)]
structure M2 (X:Cx) (o:Expr) (m:Str) (apos:Pos) (e f:Expr) (cpos:Pos):Prop where
 base:attributeBase o m X.env (eval o X.env)=eval o X.env
 few:((backTo cpos (starEach [e,f] X.env)).all (fun x=>!x.1) && (backToKw cpos (keywordEach [] X.env)).all (fun x=>x.1.isSome)
  && decide (([e,f]:List Expr).length+([]:List Keyword).length+(if ([]:List Keyword).isEmpty then 0 else 1) < 30))=true
 line:(apos.endLine==cpos.line)=true
 trees:backTo cpos (starEach [e,f] X.env)=[(false,eval e X.env),(false,eval f X.env)]
def IsD (H:Hp) (a:Addr):Prop:=(∃ kvs,Rd H a (.dK kvs))\/∃ kvs,Rd H a (.dT kvs)
theorem zpN {X:Cx} {pins:List (Addr×Obj)} {σ:St} {H:Hp} {s:Shared} {a:Addr} (I:Inv X pins σ H s) (d:IsD H a) :
  s.TypeIs (.ref a) "dict"/\(∀ b,Value.ref a=.ref b->∃ ob,s.heap.get? b=some ob/\ob.dict=none)/\(a==sysModules)=false:=by
 rcases d with ⟨kvs,e⟩ | ⟨kvs,e⟩
 ·obtain ⟨_,hd,vs,_,dd⟩:=ziT I.hok e
  refine ⟨dd.typeIs,fun b q=>?_,hd⟩
  cases q
  obtain ⟨ob,_,_,h1,h2,_⟩:=dd
  exact ⟨ob,h1,h2.2.1⟩
 ·obtain ⟨_,hd,xs,_,dd⟩:=zku I.hok e
  refine ⟨dd.typeIs,fun b q=>?_,hd⟩
  cases q
  obtain ⟨ob,_,_,h1,h2,_⟩:=dd
  exact ⟨ob,h1,h2.2.1⟩
section
variable {X:Cx} {pins:List (Addr×Obj)} {σ:St} {H:Hp} {s:Shared} {a:Addr} {y d:V} {u r:Value} {o:Option V} {A:Around} {E:Value->Shared->Prop}
theorem ztF {Q:Value->Shared->Prop} (hu:A.units+1 < cLine) (I:Inv X pins σ H s) (g:zkM H a y o) (ry:zca y u) (h:∀ w' s',Inv X pins σ H s'->zca (o.getD .non) w'->Q w' s') :
  wpAny (model X.prog X.w) A (call (.builtin "dict.get") [.ref a,u]) Q E s:=by
 rcases g with ⟨kvs,k,e,ey,l⟩ | ⟨kvs,k,b,e,ey,eb,l⟩
 ·subst ey
  obtain ⟨z,hd,vs,rel,dd⟩:=ziT I.hok e
  refine call_meetsIn PySem.F.slot_dict_get dd.typeIs PySem.F.entry_dict_get (PySem.F.args_dict_get_2 _ _) (meets_dict_get (zaM X.prog X.w) a (zjE ry) hd) ⟨_,dd.mapOf,h _ _ (I.tok _) ?_⟩
  rw [l]
  exact (rel.val k).getD rfl
 ·subst ey
  cases (show u=Value.ref b from ry)
  obtain ⟨z,hd,xs,rel,dd⟩:=zku I.hok e
  refine call_meetsIn PySem.F.slot_dict_get dd.typeIs PySem.F.entry_dict_get (PySem.F.args_dict_get_2 _ _) (meetsH_dict_get (tupleKind (zaM X.prog X.w)) a b hd) ⟨tupleKind_room_in1 hu,k,xs,zha I.hok eb,dd,h _ _ (I.tok _) ?_⟩
  rw [l]
  exact (rel.val k).getD rfl
theorem ztE {Q:Value->Shared->Prop} (hu:A.units+1 < cLine) (I:Inv X pins σ H s) (g:zkM H a y o) (ry:zca y u) (rd:zca d r) (h:∀ w' s',Inv X pins σ H s'->zca (o.getD d) w'->Q w' s') :
  wpAny (model X.prog X.w) A (call (.builtin "dict.get") [.ref a,u,r]) Q E s:=by
 rcases g with ⟨kvs,k,e,ey,l⟩ | ⟨kvs,k,b,e,ey,eb,l⟩
 ·subst ey
  obtain ⟨z,hd,vs,rel,dd⟩:=ziT I.hok e
  refine call_meetsIn PySem.F.slot_dict_get dd.typeIs PySem.F.entry_dict_get (PySem.F.args_dict_get_3 _ _ _) (meets_dict_get_default (zaM X.prog X.w) a (zjE ry) hd r) ⟨_,dd.mapOf,h _ _ (I.tok _) ?_⟩
  rw [l]
  exact (rel.val k).getD rd
 ·subst ey
  cases (show u=Value.ref b from ry)
  obtain ⟨z,hd,xs,rel,dd⟩:=zku I.hok e
  refine call_meetsIn PySem.F.slot_dict_get dd.typeIs PySem.F.entry_dict_get (PySem.F.args_dict_get_3 _ _ _) (meetsH_dict_get_default (tupleKind (zaM X.prog X.w)) a b hd r) ⟨tupleKind_room_in1 hu,k,xs,zha I.hok eb,dd,h _ _ (I.tok _) ?_⟩
  rw [l]
  exact (rel.val k).getD rd
end
def zsl (td ty:TE):TE:=fun σ H Q=>td σ H fun x H1=>∃ a,x=.ref a/\IsD H1 a/\ty σ H1 fun y H2=>∃ o,zkM H2 a y o/\Q (o.getD .non) H2
def zsk (td ty tx:TE):TE:=fun σ H Q=>td σ H fun x H1=>∃ a,x=.ref a/\IsD H1 a/\ty σ H1 fun y H2=>tx σ H2 fun z H3=>∃ o,zkM H3 a y o/\Q (o.getD z) H3
section
variable {X:Cx} {o e f:Expr} {apos cpos:Pos} {td ty tx:TE}
theorem zoB (hu:X.A.units+1 < cLine) (ho:PE X o td) (he:PE X e ty) (m:M1 X o "get" apos e cpos):PE X (.Call (.Attribute o "get" apos) [e] [] cpos) (zsl td ty):=by
 intro pins s σ H Q I h
 refine wpAny_Call_method m.base m.few m.line PySem.F.plainAttrs_dict PySem.F.slot_dict_get PySem.F.type_dict_get (thn (ho pins s σ H _ I h) fun u s1 ⟨x,H1,I1,rx,a,ex,d,q1⟩=>?_)
 subst ex
 obtain rfl:u=Value.ref a:=rx
 obtain ⟨t1,t2,_⟩:=zpN I1 d
 refine ⟨t1,t2,?_⟩
 rw [m.trees]
 refine Calls.callWith_builtin rfl (Calls.evalArgs_plain (Calls.spliced_cons (thn (he pins s1 σ H1 _ I1 q1) fun iv s2 ⟨y,H2,I2,ry,ov,g,q2⟩=>Calls.spliced_nil ?_)))
 exact ztF hu I2 g ry fun w' s3 I3 rw'=>⟨_,H2,I3,rw',q2⟩
theorem zoA (hu:X.A.units+1 < cLine) (ho:PE X o td) (he:PE X e ty) (hf:PE X f tx) (m:M2 X o "get" apos e f cpos):PE X (.Call (.Attribute o "get" apos) [e,f] [] cpos) (zsk td ty tx):=by
 intro pins s σ H Q I h
 refine wpAny_Call_method m.base m.few m.line PySem.F.plainAttrs_dict PySem.F.slot_dict_get PySem.F.type_dict_get (thn (ho pins s σ H _ I h) fun u s1 ⟨x,H1,I1,rx,a,ex,d,q1⟩=>?_)
 subst ex
 obtain rfl:u=Value.ref a:=rx
 obtain ⟨t1,t2,_⟩:=zpN I1 d
 refine ⟨t1,t2,?_⟩
 rw [m.trees]
 refine Calls.callWith_builtin rfl (Calls.evalArgs_plain (Calls.spliced_cons (thn (he pins s1 σ H1 _ I1 q1) fun iv s2 ⟨y,H2,I2,ry,q2⟩ =>
  Calls.spliced_cons (thn (hf pins s2 σ H2 _ I2 q2) fun fv s3 ⟨z,H3,I3,rz,ov,g,q3⟩=>Calls.spliced_nil ?_))))
 exact ztE hu I3 g ry rz fun w' s4 I4 rw'=>⟨_,H3,I4,rw',q3⟩
end
section
variable {X:Cx} {pins:List (Addr×Obj)} {σ:St} {H:Hp} {s:Shared} {a:Addr} {kvs:List (Key×V)} {A:Around} {E:Value->Shared->Prop}
end
section
variable {X:Cx} {pins:List (Addr×Obj)} {σ:St} {H:Hp} {s:Shared} {a:Addr} {y:V} {u:Value} {A:Around} {E:Value->Shared->Prop}
end
end L2
end
section
namespace Att
open PySem PySem.W PySem.Calls PyProof.Rows
theorem zhb {P:Params} {h:Heap}:∀ (ns:List Int) (vs:List Value),WellAll P h vs (ns.map WData.int)->IntsAre vs ns:=by
 intro ns
 induction ns with
 | nil =>
  intro vs w
  rw [qM] at w
  cases w
  exact .nil
 | cons n ns ih =>
  intro vs w
  rw [qp] at w
  cases w with
  | cons a b =>
   cases a
   exact .cons _ _ (ih _ b)
theorem zjm {l:OpenLaw} {n:Nat} (hn:l.most=some n) {P:Params} {h:Heap} {args:List WData} {vals:List Value}
  (hpre:l.row.toRowW.claim.pre args=true) (hwl:WellAll P h vals args) :
  ∃ a vs ns,vals=[Value.ref a]/\args=[WData.list (ns.map WData.int)]/\h.get? a=some { cls:=.type "list",data:=.seq vs.toArray }/\IntsAre vs ns/\ns.length<=n:=by
 have hsh:WShape.hasAll [] args [.list .int]=true:=(pre_splitW hpre).1
 have hc:l.pre.holds [] { args:=args }=true:=(pre_splitW hpre).2
 obtain ⟨d,r,rfl,h1,h2⟩:=hasAllW_cons hsh
 obtain rfl:=hasAllW_nil h2
 obtain ⟨xs,rfl,h3⟩:=hasW_list h1
 obtain ⟨ns,rfl⟩:=items_int h3
 have hlen:ns.length<=n:=by
  unfold OpenLaw.pre at hc
  have h4:(WTm.not (.lt (.lit (.int (n:Int))) (.len (.arg 0)))).holds [] { args:=[.list (ns.map .int)] }=true:=by
   have h4:=(holds_andW hc).1
   rw [hn] at h4
   exact h4
  have h5:=condW_of h4 (w_not (w_lt w_lit (w_len_list (w_arg rfl))))
  rw [qg] at h5
  refine Nat.le_of_not_lt fun q=>?_
  have q':(n:Int) < ((ns.length:Nat):Int):=by omega
  first
   | (rw [qQ q'] at h5;exact absurd h5 (by decide))
   | (simp at h5;omega)
 cases hwl with
 | cons w1 w2 =>
  cases w2
  cases w1 with
  | list ho hall=>exact ⟨_,_,ns,rfl,rfl,ho,zhb ns _ hall,hlen⟩
theorem zju (l:OpenLaw) (args:List WData):l.row.toRowW.claim.post args (.bool true) args=true :=
 postW_of (r:=l.row.toRowW) (X:=(true==true))
  (show WShape.has [] (.bool true) .bool=true by first | rfl | decide | simp [WShape.has,WShape.arms,WShape.armsAll])
  (show (WTm.eq .res (.lit (.bool true))).value [] { args:=args,res:=some (.bool true),after:=args }=some (.bool (true==true)) from w_eq_bool (w_res rfl) w_lit) rfl
theorem zvm {l:OpenLaw} {n:Nat} {q:Program} {loose:List Str} {XP:(Str->Option Value)->Heap->Prop} {YP:World->Heap->Prop} {d:DefRec} {x:Str}
  (hn:l.most=some n) (hdf:d.params.defaults=[])
  (hbind:∀ pm cd doc v:Value,bindArgs (docDef d.name d.params d.body d.scope pm cd doc) ⟨[v],[]⟩=pure [(x,v)])
  (hx:d.scope.names.lookup x=some .local\/d.scope.names.lookup x=some .cell)
  (hk:d.scope.kind=.function) (hco:d.scope.isCoroutine=false) (hgen:d.scope.isGenerator=false)
  (body:∀ (w:World) (s₀ s₁ s:Shared) (mg mb:Str->Option Value) (fa:Addr) (o:Obj) (pm cd doc:Value) (a:Addr) (vs:List Value) (ns:List Int),
   Ground q loose [] XP w s₀ mg mb s₁.heap->YP w s₁.heap ->
   s₁.heap.get? fa=some o->o.data=.func (docDef d.name d.params d.body d.scope pm cd doc)->s₁.heap.CodeRec cd d.name->mg d.name=some (.ref fa) ->
   s₁.heap.get? a=some { cls:=.type "list",data:=.seq vs.toArray }->IntsAre vs ns->ns.length<=n ->
   s.gens=#[]->s.os=s₁.os ->
   Fr s₁.heap s₁.heap.objs.size s.heap (bindL (envOfC d.name d.scope s₁.heap.objs.size fa cd).kindOf [(x,.ref a)] fun _=>none) ->
   Cl s₁.heap.objs.size (cellsFrom (s₁.heap.objs.size+1) d.scope.names []) s.heap (bindC (envOfC d.name d.scope s₁.heap.objs.size fa cd).kindOf [(x,.ref a)] fun _=>none) ->
   wpAny (model l.prog w) (callerA.deeper (envOfC d.name d.scope s₁.heap.objs.size fa cd)) (execs d.body (envOfC d.name d.scope s₁.heap.objs.size fa cd))
    (fun f s'=>f=.ret (.bool true)/\OldK s₁.heap s'.heap/\s'.os=s₁.os/\AllBare s'.gens) (fun _ _=>False) s) :
  WalkO q loose XP YP l.row.toRowW d [] (fun f vs=>PySem.call f vs):=by
 intro w s₀ s₁ mg mb G Y fa o pm cd doc dV kV ho hd hcd hD hmg hg args vals as hpre hlay hrd hwl hlo
 obtain rfl:dV=.none:=Dflts.none hD hdf
 obtain rfl:kV=.none:=Dflts.noKw hD
 obtain ⟨a,vs,ns,rfl,rfl,hobj,hints,hlen⟩:=zjm hn hpre hwl
 refine enter_call ?_
 refine call_cells_ret (o:=o) (by rw [depth_caller];decide) ho (fd_plain hd) G.T.nolimit hcd (hbind pm cd doc (.ref a)) (fun y hy=>?_) (fun h₁ tk F X=>?_) hco hgen hk
 ·obtain rfl:y=(x,Value.ref a):=List.mem_singleton.mp hy
  rcases hx with e | e
  ·exact .inl e
  ·exact .inr ⟨e,cellsFrom_some _ _ _ (.inl e)⟩
 ·refine wpAny_mono (body w s₀ s₁ { s₁ with heap:=h₁,toks:=tk } mg mb fa o pm cd doc a vs ns G Y ho (fd_plain hd) hcd hmg hobj hints hlen hg rfl F X) (fun f s' hq=>?_) (fun _ _ hq=>hq)
  obtain ⟨rfl,h2,h3,h4⟩:=hq
  exact ⟨.inl ⟨.bool true,.bool true,[],rfl,fun _=>rfl,.bool true,zju l _,fun _=>⟨List.Pairwise.nil,fun _ hm=>(nomatch hm)⟩⟩,h2,h3,h4⟩
theorem attach_call {l:OpenLaw} {n:Nat} {q:Program} {loose:List Str} {XP:(Str->Option Value)->Heap->Prop} {YP:World->Heap->Prop} {d:DefRec}
  (hn:l.most=some n) (hdf:d.params.defaults=[])
  (call:∀ (w:World) (s₀ s₁:Shared) (mg mb:Str->Option Value) (fa:Addr) (o:Obj) (pm cd doc:Value) (a:Addr) (vs:List Value) (ns:List Int),
   Ground q loose [] XP w s₀ mg mb s₁.heap->YP w s₁.heap ->
   s₁.heap.get? fa=some o->o.data=.func (docDef d.name d.params d.body d.scope pm cd doc)->s₁.heap.CodeRec cd d.name->mg d.name=some (.ref fa) ->
   s₁.heap.get? a=some { cls:=.type "list",data:=.seq vs.toArray }->IntsAre vs ns->ns.length<=n->s₁.gens=#[] ->
   codeAny (model l.prog w) callerA (.call (.ref fa) ⟨[.ref a],[]⟩) (fun r s'=>r=.ok (.ret (.bool true))/\OldK s₁.heap s'.heap/\s'.os=s₁.os/\AllBare s'.gens) s₁) :
  WalkO q loose XP YP l.row.toRowW d [] (fun f vs=>PySem.call f vs):=by
 intro w s₀ s₁ mg mb G Y fa o pm cd doc dV kV ho hd hcd hD hmg hg args vals as hpre hlay hrd hwl hlo
 obtain rfl:dV=.none:=Dflts.none hD hdf
 obtain rfl:kV=.none:=Dflts.noKw hD
 obtain ⟨a,vs,ns,rfl,rfl,hobj,hints,hlen⟩:=zjm hn hpre hwl
 refine enter_call (codeAny_mono (call w s₀ s₁ mg mb fa o pm cd doc a vs ns G Y ho (fd_plain hd) hcd hmg hobj hints hlen hg) fun r s' hq=>?_)
 obtain ⟨rfl,h2,h3,h4⟩:=hq
 exact ⟨.inl ⟨.bool true,.bool true,[],rfl,fun _=>rfl,.bool true,zju l _,fun _=>⟨List.Pairwise.nil,fun _ hm=>(nomatch hm)⟩⟩,h2,h3,h4⟩
section
variable {prog:Program} {w:World} {A:Around} {E:Value->Shared->Prop} {s:Shared} {K:Frag}
def zvf (h:Heap) (L d:Addr):List (Addr×Obj):=(List.range h.objs.size).filterMap fun a=>if a=L\/a=d then none else (h.get? a).map fun o=>(a,o)
end
end Att
namespace L2
open PySem PySem.Spec PyProof.Rows
theorem zjh:∀ {vs:List Value} {ns:List Int},IntsAre vs ns->zbS (ns.map V.int) vs
 | _,_,.nil=>.nil
 | _,_,.cons n t h=>.cons ⟨t,rfl⟩ (zjh h)
def zuU (H:Hp):Prop:=∀ b,H b=none\/∃ o xs,H b=some (.frz o (.lst xs))
theorem zoQ {P:Program} {w:World} {K:PySem.W.Frag} {mg mb:Str->Option Value} {CX:CXT} {k:Nat} {fa a:Addr} {fd:FuncData} {x:Str} {sp:Sp} {s₁:Shared} {vs:List Value} {ns:List Int}
  (KX:K.In s₁.heap) (hns:s₁.heap.Ns mainGlobals mg) (hb:s₁.heap.Ns builtinsNs mb) (hbb:∀ x:Str,x≠"__name__"->mb x=bootBuiltins x) (hlim:s₁.heap.NoLimit) (hg:s₁.gens=#[])
  (ha:s₁.heap.get? a=some { cls:=.type "list",data:=.seq vs.toArray }) (hi:IntsAre vs ns) (hl:ns.length<=sizeLine) (hr:Room k callerA)
  (F:∀ base:Heap,K.In base->base.Ns mainGlobals mg->FnOk P w K mg base CX k fa fd [x] sp) (hbind:∀ (s:Shared) (u:Value),BindsTo s fd ⟨[u],[]⟩ [(x,u)])
  (hsp:∀ H:Hp,zuU H->SqL K H a (ns.map V.int)->sp [.ref a] H (fun v _=>v=.bl true) fun _ _ _=>False)
  (hCX:∀ H e s',CX [] H s₁ (fun _ _ _=>False) e s'->False) :
  codeAny (model P w) callerA (.call (.ref fa) ⟨[.ref a],[]⟩) (fun r s'=>r=.ok (.ret (.bool true))/\OldK s₁.heap s'.heap/\s'.os=s₁.os/\AllBare s'.gens) s₁:=by
 have rv:=zjh hi
 have lenV:=hi.length
 have core:∀ H:Hp,zuU H->SqL K H a (ns.map V.int)->HOk P w H s₁.heap->(∀ b,H b≠none->b=a)->(H a≠none->K.lookup a=none) ->
   codeAny (model P w) callerA (.call (.ref fa) ⟨[.ref a],[]⟩) (fun r s'=>r=.ok (.ret (.bool true))/\OldK s₁.heap s'.heap/\s'.os=s₁.os/\AllBare s'.gens) s₁:=by
  intro H hO hS hok hA hK
  have base_of:∀ {b:Addr} {o:Obj},s₁.heap.get? b=some o->H b=none->(zoV s₁.heap H).get? b=some o:=fun e n=>zoU e n
  have noA:∀ {b:Addr} {o:Obj} {es:Array DictEntry} {ep:Nat},s₁.heap.get? b=some o->o.data=.dict es ep->H b=none:=fun {b o es ep} e d=>by
   cases q:H b with
   | none=>rfl
   | some u =>
    have e':b=a:=hA b (by rw [q];simp)
    subst e'
    rw [ha] at e;cases e
    have d':Data.seq vs.toArray _=Data.dict es ep:=d
    cases d'
  have nsK:∀ {b:Addr} {m:Str->Option Value},s₁.heap.Ns b m->(zoV s₁.heap H).Ns b m:=fun {b m} ⟨o,es,ep,e,d,r⟩=>⟨o,es,ep,base_of e (noA e d),d,r⟩
  have hKb:K.In (zoV s₁.heap H):=fun b o e=>base_of (KX b o e) (by
   cases q:H b with
   | none=>rfl
   | some u =>
    have e':b=a:=hA b (by rw [q];simp)
    subst e'
    rw [hK (by rw [q];simp)] at e;cases e)
  have hM:Mod K mg (zoV s₁.heap H):=⟨hKb,nsK hns,⟨mb,nsK hb,hbb⟩,let ⟨mc,h1,h2⟩:=hlim;⟨mc,nsK h1,h2⟩⟩
  have e0:Env0 P w K mg (zoV s₁.heap H) callerA [] s₁ H:=⟨rfl,hM,fun b o e=>zqU e,Nat.le_of_eq (znl _ _),trivial,fun b hb=>absurd (show b∈([]:List Addr) from hb) (by simp),hok,.of_eq hg⟩
  refine codeAny_mono ((F _ hKb (nsK hns)).run callerA [] s₁ H ⟨[.ref a],[]⟩ [.ref a] [.ref a] _ _ hr e0 (hbind s₁ (.ref a)) (.cons rfl .nil) (hsp H hO hS)) fun r s' h=>?_
  cases r with
  | error e=>exact (hCX H e s' h).elim
  | ok fl =>
   cases fl with
   | next=>exact False.elim h
   | brk=>exact False.elim h
   | cont=>exact False.elim h
   | ret u =>
    obtain ⟨v,H',os,bare,un,hok',r',q⟩:=h
    have q':v=.bl true:=q
    subst q'
    obtain rfl:u=Value.bool true:=r'
    refine ⟨rfl,OldK.of_keep fun b o e=>?_,os,bare⟩
    cases q:H b with
    | none=>exact un.keep b o e q (by intro z;exact absurd (show b∈([]:List Addr) from z) (by simp)) (by simp)
    | some u =>
     rcases hO b with z | ⟨ob,xs,z⟩
     ·rw [q] at z;cases z
     ·have z2:=un.frzs b ob _ z
      obtain ⟨e1,_⟩:=hok b _ z
      obtain ⟨e2,_⟩:=hok' b _ z2
      rw [e] at e1;cases e1
      exact e2
 cases hk:K.lookup a with
 | some o =>
  have e:=KX a o hk
  rw [ha] at e
  cases e
  refine core (fun _=>none) (fun _=>.inl rfl) (.inr ⟨_,vs.toArray,_,hk,rfl,rfl,rfl,by rw [qA,lenV];exact hl,by simpa using rv⟩) (fun b u z=>by have z':(none:Option HO)=some u:=z;cases z') (fun b z=>absurd rfl z) fun z=>absurd rfl z
 | none =>
  refine core (fun b=>if b=a then some (.frz { cls:=.type "list",data:=.seq vs.toArray } (.lst (ns.map V.int))) else none) (fun b=>?_) (.inl (.inr ⟨{ cls:=.type "list",data:=.seq vs.toArray },qU rfl⟩)) (fun b u z=>?_) (fun b z=>?_) fun _=>hk
  ·by_cases hb:b=a
   ·exact .inr ⟨_,_,qU hb⟩
   ·exact .inl (qV hb)
  ·by_cases hb:b=a
   ·have z':=(qU hb).symm.trans z
    cases z'
    subst hb
    exact ⟨ha,by rw [qg];exact hl,vs,_,rv,ha⟩
   ·have z':=(qV hb).symm.trans z
    cases z'
  ·by_cases hb:b=a
   ·exact hb
   ·exact absurd (qV hb) z
end L2
namespace L2
open PySem PySem.Spec PyProof.Rows
abbrev KOf {K:PySem.W.Frag} {h:Heap} (_:K.In h):PySem.W.Frag:=K
theorem walk_of {l:PySem.W.OpenLaw} {n k:Nat} {q:Program} {loose:List Str} {XP:(Str->Option Value)->Heap->Prop} {YP:World->Heap->Prop} {d:DefRec} {K:Params->PySem.W.Frag} {CX:World->CXT} {sp:World->Sp} {x:Str}
  (hn:l.most=some n) (hn2:n<=sizeLine) (hdf:d.params.defaults=[]) (hr:Room k callerA)
  (hY:∀ (w:World) (h:Heap),YP w h->(K w.params).In h)
  (F:∀ (w:World) (mg:Str->Option Value) (fa:Addr) (h:Heap),(K w.params).In h->h.Ns mainGlobals mg->mg d.name=some (.ref fa) ->
   ∃ fd:FuncData,(∀ (s:Shared) (u:Value),BindsTo s fd ⟨[u],[]⟩ [(x,u)]) /\
    ∀ base:Heap,(K w.params).In base->base.Ns mainGlobals mg->FnOk l.prog w (K w.params) mg base (CX w) k fa fd [x] (sp w))
  (hsp:∀ (w:World) (H:Hp) (a:Addr) (ns:List Int),ns.length<=n->zuU H->SqL (K w.params) H a (ns.map V.int)->sp w [.ref a] H (fun v _=>v=.bl true) fun _ _ _=>False)
  (hCX:∀ (w:World) (H:Hp) (s:Shared) (e:Value) (s':Shared),CX w [] H s (fun _ _ _=>False) e s'->False) :
  PySem.W.WalkO q loose XP YP l.row.toRowW d [] (fun f vs=>PySem.call f vs):=by
 refine Att.attach_call hn hdf fun w s₀ s₁ mg mb fa o pm cd doc a vs ns G Y ho hd hcd hmg hobj hints hlen hg=>?_
 have KX:=hY w _ Y
 obtain ⟨fd,hb,hF⟩:=F w mg fa _ KX G.T.g hmg
 exact zoQ KX G.T.g G.T.b G.T.builtins G.T.nolimit hg hobj hints (qK hlen hn2) hr hF hb (fun H hO hS=>hsp w H a ns hlen hO hS) fun H e s'=>hCX w H s₁ e s'
end L2
namespace L2
open PySem PySem.Spec PyProof.Rows
def zdd (s:Stmt) (j:Nat):Stmt:=match s with
 | .ClassDef _ _ _ body _ _ _ _ _ _ _=>body.getD j (.Pass ⟨0,0,0,0⟩)
 | _=>.Pass ⟨0,0,0,0⟩
def zcC (s:Stmt):Arguments:=match s with
 | .FunctionDef _ a _ _ _ _ _ _ _ _=>a
 | _=>{ posonlyargs:=[],args:=[],vararg:=none,kwonlyargs:=[],kw_defaults:=[],kwarg:=none,defaults:=[] }
def zbu (s:Stmt):List Stmt:=match s with
 | .FunctionDef _ _ b _ _ _ _ _ _ _=>b
 | _=>[]
def zak (s:Stmt):Scope:=match s with
 | .FunctionDef _ _ _ _ _ _ sc _ _ _=>sc
 | _=>{ kind:=.function,names:=[],isGenerator:=false,isCoroutine:=false }
abbrev CX0:CXT:=fun _ _ _ _ _ _=>False
abbrev E0:XK:=fun _ _ _=>False
theorem zlM {X:Cx}:zhu CX0 X E0:=fun _ _ _ _ _ _ _ h=>h.elim
structure Fun (K:PySem.W.Frag) (x qual:Str) (st:Stmt) (f:Addr) (fd:FuncData):Prop where
 ex:∃ (oc:Value) (od:Option Addr) (kV doc pm:Value) (an:Option Addr) (cdv ct:Value) (osl:Array (Option Value)),
  fd=PySem.W.fnOf x qual (zcC st) (zbu st) (zak st) .none kV doc pm an cdv ct/\K.lookup f=some ⟨oc,od,.func fd,osl⟩/\PySem.W.codeIn K cdv qual=true
 kp:PySem.W.keepIn K (.ref f)=true
section
variable {P:Program} {w:World} {K:PySem.W.Frag} {mg:Str->Option Value} {base:Heap}
theorem Fun.ok {x qual:Str} {st:Stmt} {f:Addr} {fd:FuncData} {N ps:List Str} {k:Nat} {sp:Sp} (F:Fun K x qual st f fd) (S:FnScope N ps (zak st)) (len:∀ vs H Q E,sp vs H Q E->vs.length=ps.length)
  (hbody:∀ (cdv:Value) (A:Around) (outer:List Env) (s:Shared) (H:Hp) (vs:List V) (Q:VK) (E:XK),Room k (A.deeper (envOfC qual (zak st) s.heap.objs.size f cdv))->sp vs H Q E ->
   ∃ t,PSs (zj6 CX0 P w K mg base N qual (zak st) f cdv A outer s H E).nox (zbu st) t/\t { nx:=fun _ H'=>Q .non H',rt:=Q } (zfv N vs) H):FnOk P w K mg base CX0 (k+1) f fd ps sp:=by
 obtain ⟨oc,od,kV,doc,pm,an,cdv,ct,osl,rfl,lk,hcd⟩:=F.ex
 refine zuJ lk hcd S len fun A outer s H vs Q E hr hsp=>?_
 obtain ⟨t,h,q⟩:=hbody cdv A outer s H vs Q E hr hsp
 exact ⟨t,h.nox,q⟩
theorem Fun.binds {x qual:Str} {st:Stmt} {f:Addr} {fd:FuncData} {ps:List Str} (F:Fun K x qual st f fd)
  (h:∀ (kV doc pm:Value) (an:Option Addr) (cdv ct:Value) (us:List Value),us.length=ps.length->bindArgs (PySem.W.fnOf x qual (zcC st) (zbu st) (zak st) .none kV doc pm an cdv ct) ⟨us,[]⟩=pure (ps.zip us)):zdF K fd ps []:=by
 obtain ⟨oc,od,kV,doc,pm,an,cdv,ct,osl,rfl,lk,hcd⟩:=F.ex
 exact .all (h kV doc pm an cdv ct)
theorem znp {x qual:Str} {st:Stmt} {f:Addr} {oc:Value} {od an:Option Addr} {osl:Array (Option Value)} {kV doc pm cdv ct:Value} (l:K.lookup f=some ⟨oc,od,.func (PySem.W.fnOf x qual (zcC st) (zbu st) (zak st) .none kV doc pm an cdv ct),osl⟩)
  (c:PySem.W.codeIn K cdv qual=true) (k:PySem.W.keepIn K (.ref f)=true):Fun K x qual st f (PySem.W.fnOf x qual (zcC st) (zbu st) (zak st) .none kV doc pm an cdv ct):=⟨⟨oc,od,kV,doc,pm,an,cdv,ct,osl,rfl,l,c⟩,k⟩
end
section
variable {X:Cx}
theorem pv (i:Nat) {x:Str} {pos:Pos} (hN:X.N[i]?=some x:=by rfl) (hv:Vis X.env.scope x:=by first | exact Or.inl rfl | exact Or.inr (Or.inl rfl) | exact Or.inr (Or.inr rfl)) (hd:(x==("__debug__":Str))=false:=by decide)
  (hcd:(x==("__classdict__":Str))=false:=by decide):PE X (.Name x pos) (zu3 i):=zd6 hN hv hd hcd
end
theorem zr9 {A B:Prop} (h:B):if false=true then A else B:=by
 rw [qV qt]
 exact h
theorem zr8 {A B:Prop} (h:A):if true=true then A else B:=by
 rw [qU rfl]
 exact h
def zbV (H H':Hp):Prop:=∀ b o,H b=some o->H' b=some o
theorem zbV.refl (H:Hp):zbV H H:=fun _ _ h=>h
theorem zbV.trans {H H1 H2:Hp} (a:zbV H H1) (b:zbV H1 H2):zbV H H2:=fun c o h=>b c o (a c o h)
theorem zbV.free {H H':Hp} (e:zbV H H') {l:Addr} (h:H' l=Option.none):H l=Option.none:=by
 cases q:H l with
 | none=>rfl
 | some o =>
  rw [e l o q] at h
  cases h
theorem zbV.seq {K:PySem.W.Frag} {H H':Hp} {a:Addr} {xs:List V} (e:zbV H H') (h:SqL K H a xs):SqL K H' a xs:=by
 rcases h with (h | ⟨o,h⟩) | h
 ·exact .inl (.inl (e _ _ h))
 ·exact .inl (.inr ⟨o,e _ _ h⟩)
 ·exact .inr h
section
variable {κ:Type} [DecidableEq κ]
end
end L2
end
section
namespace L2
open PySem PySem.Spec PyProof.Rows
theorem zeM {prog:Program} {w:World} {A:Around} {R:Result->Shared->Prop} {s:Shared} {elt target iter:Expr} {ifs:List Expr} {scope:Scope} {pos:Pos} {it acc:Value} {env:Env} (I:Nat->Shared->Prop)
  (turn:∀ n s,I n s->wpAny (model prog w) A (pyNext it) (fun r s₁=>match r with
   | none=>R (.ok .next) s₁
   | some v=>wpAny (model prog w) A (letOwnedTupleGo target it v) (fun _ s₁'=>wpAny (model prog w) A (assign target env v) (fun _ s₂ =>
     wpAny (model prog w) A (forIn ifs true fun c r=>if r=true then do let ok ← isTrue c env (eval c env);pure (ForInStep.yield ok) else pure (ForInStep.yield r)) (fun ok s₃ =>
      if ok=true then wpAny (model prog w) A (eval elt env) (fun x s₄ =>
       wpAny (model prog w) A (call (.builtin "list.append") [acc,x]) (fun _ s₅=>∃ m,m < n/\I m s₅) (fun _ _=>False) s₄) (fun _ _=>False) s₃
      else ∃ m,m < n/\I m s₃) (fun _ _=>False) s₂) (fun _ _=>False) s₁') (fun _ _=>False) s₁) (fun _ _=>False) s)
  (n:Nat) (h:I n s) :
  codeAny (model prog w) A (.compLoop (.ListComp elt [⟨target,iter,ifs,0⟩] scope pos) 0 it acc env) R s:=by
 refine codeAny_loop rfl I (fun n s hI=>?_) n h
 show wpAny _ A ((compTurn (.ListComp elt [⟨target,iter,ifs,0⟩] scope pos) 0 it acc env).onRaise (fun x=>do noteFrame x env;theTreesLotGoes x)) _ _ s
 refine wpAny_noted ?_
 rw [compTurn_list]
 refine qx (wpAny_standAt (qx (wpAny_mono (turn n s hI) (fun r s₁ h₁=>?_) fun _ _ h'=>h'.elim)))
 cases r with
 | none=>exact qz h₁
 | some v =>
  refine qx (wpAny_mono h₁ (fun _ s₁' h₁'=>?_) fun _ _ h'=>h'.elim)
  refine qx (wpAny_mono h₁' (fun _ s₂ h₂=>qx (wpAny_mono h₂ (fun ok s₃ h₃=>?_) fun _ _ h'=>h'.elim)) fun _ _ h'=>h'.elim)
  cases ok with
  | false=>exact qz ⟨rfl,h₃⟩
  | true =>
   exact qx (qx (wpAny_mono h₃ (fun x s₄ h₄=>qx (wpAny_mono h₄ (fun _ s₅ h₅=>qz (qz ⟨rfl,h₅⟩)) fun _ _ h'=>h'.elim)) fun _ _ h'=>h'.elim))
def zdl (X:Cx) (N':List Str) (scope:Scope) (cl:List (Str×Addr)) (C:Addr) (s₀:Shared) (H₀:Hp) (fp:List Addr):Cx :=
 { X with N:=N',s₀:=s₀,H₀:=H₀,env:=compEnvC scope cl C X.env,outer:=X.stack,stack:=X.stack,ex:=fp,fn:=fun _=>false,pn:=[],xe:=fun _ _=>False }
def zea (env:Env):List (Str×NameKind)->List (Str×Addr)->List (Str×Addr)
 | [],acc=>acc
 | (n,k)::r,acc=>zea env r (if k==.free then (match env.cells.lookup n with | some c=>(n,c)::acc | none=>acc) else acc)
theorem ziX {env:Env} {scope:Scope} (h:∀ y∈scope.names,y.2=.free->∃ c,env.cells.lookup y.1=some c):closureFor scope env=pure (zea env scope.names []):=by
 have all:∀ (l:List (Str×NameKind)) (acc:List (Str×Addr)),(∀ y∈l,y.2=.free->∃ c,env.cells.lookup y.1=some c) ->
   (forIn l acc fun x r=>match x with
    | (name,kind)=>if kind==.free then do let c ← cellOf env name;pure (ForInStep.yield ((name,c)::r)) else pure (ForInStep.yield r):Sem (List (Str×Addr)))=pure (zea env l acc):=by
  intro l
  induction l with
  | nil=>intro acc _;rfl
  | cons y r ih =>
   intro acc hl
   obtain ⟨n,k⟩:=y
   rw [List.forIn_cons]
   have hr:∀ y∈r,y.2=.free->∃ c,env.cells.lookup y.1=some c:=fun y hy=>hl y (qi _ hy)
   unfold zea
   cases hk:(k==NameKind.free) with
   | false =>
    simp only [hk,Bool.false_eq_true,if_false,pure_bind]
    exact ih acc hr
   | true =>
    obtain ⟨c,hc⟩:=hl (n,k) qh (by simpa using hk)
    have hc':env.cells.lookup n=some c:=hc
    simp only [hk,if_true,cellOf,hc',pure_bind]
    exact ih _ hr
 have e:=all scope.names [] h
 exact Eq.trans (bind_pure _) e
theorem zhk {env:Env}:∀ (l:List (Str×NameKind)) (acc:List (Str×Addr)),(∀ x c,acc.lookup x=some c->env.cells.lookup x=some c)->∀ x c,(zea env l acc).lookup x=some c->env.cells.lookup x=some c
 | [],_,h=>h
 | (n,k)::r,acc,h=>by
  unfold zea
  refine zhk r _ ?_
  split
  ·split
   ·rename_i c hc
    intro x d hx
    rw [List.lookup_cons] at hx
    cases e:x==n with
    | true =>
     rw [e] at hx
     have e':x=n:=by simpa using e
     have e2:c=d:=qG hx
     rw [e',← e2];exact hc
    | false=>rw [e] at hx;exact h x d hx
   ·exact h
  ·exact h
theorem zik {env:Env}:∀ (l:List (Str×NameKind)) (acc:List (Str×Addr)) (x:Str),(acc.lookup x).isSome=true->((zea env l acc).lookup x).isSome=true
 | [],_,_,h=>h
 | (n,k)::r,acc,x,h=>by
  unfold zea
  refine zik r _ x ?_
  split
  ·split
   ·rw [List.lookup_cons]
    split
    ·rfl
    ·exact h
   ·exact h
  ·exact h
theorem zhl {env:Env}:∀ (l:List (Str×NameKind)) (acc:List (Str×Addr)) (x:Str) (c:Addr),(x,NameKind.free)∈l->env.cells.lookup x=some c->((zea env l acc).lookup x).isSome=true
 | [],_,_,_,h,_=>nomatch h
 | (n,k)::r,acc,x,c,h,hc=>by
  unfold zea
  rcases List.mem_cons.mp h with e | h
  ·injection e with e1 e2
   subst e1;subst e2
   refine zik r _ _ ?_
   rw [qU (by rfl),hc]
   simp
  ·exact zhl r _ x c h hc
theorem zcP {env:Env}:∀ (names:List (Str×NameKind)) (x:Str) (k':NameKind),
  (names.map fun (n,k)=>if (k==NameKind.free && env.scope.kind==.function && env.kindOf n==some .cell) then (n,NameKind.cell) else (n,k)).lookup x=some k' ->
  names.lookup x=some k'\/(k'=.cell/\names.lookup x=some .free)
 | [],_,_,h=>by simp at h
 | (n,k)::r,x,k',h=>by
  have ih:=@zcP env r x k'
  have h':List.lookup x ((if (k==NameKind.free && env.scope.kind==.function && env.kindOf n==some .cell)=true then (n,NameKind.cell) else (n,k))::(r.map fun (n,k)=>if (k==NameKind.free && env.scope.kind==.function && env.kindOf n==some .cell) then (n,NameKind.cell) else (n,k)))=some k':=h
  cases hx:x==n with
  | true =>
   by_cases hc:(k==NameKind.free && env.scope.kind==.function && env.kindOf n==some .cell)=true
   ·rw [qU hc] at h'
    simp only [List.lookup_cons,hx] at h' ⊢
    have hk:k=.free:=by
     simp only [Bool.and_eq_true,beq_iff_eq] at hc
     exact hc.1.1
    right
    exact ⟨(qG h').symm,by rw [hk]⟩
   ·rw [qV hc] at h'
    simp only [List.lookup_cons,hx] at h' ⊢
    exact .inl h'
  | false =>
   have h2:List.lookup x (r.map fun (n,k)=>if (k==NameKind.free && env.scope.kind==.function && env.kindOf n==some .cell) then (n,NameKind.cell) else (n,k))=some k':=by
    by_cases hc:(k==NameKind.free && env.scope.kind==.function && env.kindOf n==some .cell)=true
    ·rw [qU hc] at h'
     simpa only [List.lookup_cons,hx] using h'
    ·rw [qV hc] at h'
     simpa only [List.lookup_cons,hx] using h'
   simp only [List.lookup_cons,hx]
   exact ih h2
structure CompScope (X:Cx) (scope:Scope):Prop where
 kind:scope.kind=.function
 nocell:∀ y∈scope.names,y.2≠.cell
 names:∀ y∈scope.names,y.2=.local->scope.names.lookup y.1=some .local
 free:∀ y∈scope.names,y.2=.free->X.env.kindOf y.1=some .cell\/X.env.kindOf y.1=some .free
def zno (fv:List (Option Nat)) (σ:St):St:=fv.map fun o=>o.bind fun j=>(σ[j]?).join
section
variable {X:Cx} {pins:List (Addr×Obj)} {σ:St} {H:Hp} {s:Shared}
theorem zgo (I:Inv X pins σ H s) {scope:Scope} (S:CompScope X scope):closureFor scope X.env=pure (zea X.env scope.names []) :=
 ziX fun y hy hf=>I.ok.has y.1 (S.free y hy hf)
theorem zrF (I:Inv X pins σ H s) {N':List Str} {scope:Scope} (S:CompScope X scope) {fp:List Addr} (hf:∀ b∈fp,zl9 X pins H b) (hlt:∀ b∈fp,b < s.heap.objs.size) {C:Addr} (hC:s.heap.objs.size<=C) :
  (zdl X N' scope (zea X.env scope.names []) C s H fp).Ok:=by
 have sub:=zhk (env:=X.env) scope.names [] (fun x c h=>by simp at h)
 refine ⟨I.ok.mod,S.kind,I.ok.glob,I.ok.blt,hC,fun x y c h1 h2=>I.ok.inj x y c (sub x c h1) (sub y c h2),fun x hx=>?_,fun x c h _=>by simp [zdl] at h,I.ok.hd,I.ok.frames,.inl rfl,fun b hb=>⟨?_,fun x c e=>?_⟩,I.bs,qK I.ok.bsz I.sz,
  fun b o e hb=>?_,fun b hb=>?_,I.stack,I.stkFree⟩
 ·have hx':((relabel scope X.env).names.lookup x=some .cell\/(relabel scope X.env).names.lookup x=some .free):=hx
  have hfr:scope.names.lookup x=some .free:=by
   rcases hx' with h | h
   ·rcases zcP _ _ _ h with h | ⟨_,h⟩
    ·exact absurd rfl (S.nocell _ (PySem.mem_of_lookup h))
    ·exact h
   ·rcases zcP _ _ _ h with h | ⟨h,_⟩
    ·exact h
    ·cases h
  have hm:=PySem.mem_of_lookup hfr
  obtain ⟨c,hc⟩:=I.ok.has x (S.free _ hm rfl)
  exact Option.isSome_iff_exists.mp (zhl _ _ x c hm hc)
 ·exact qB (qE (hlt b hb) hC)
 ·exact (hf b hb).2.2.2.2.1 x c (sub x c e)
 ·rcases (hf b hb).2.2.2.1 with z | z
  ·exact I.ok.noex b o e z
  ·exact absurd (qE (qv e) I.ok.bsz) (Nat.not_lt.mpr z)
 ·intro z
  rcases List.mem_cons.mp (I.stkSub b z) with e | e
  ·exact (hf b hb).2.1 e
  ·exact (hf b hb).2.2.1 e
theorem zl1 (I:Inv X pins σ H s) {N':List Str} {scope:Scope} (S:CompScope X scope) {fp:List Addr} (hf:∀ b∈fp,zl9 X pins H b) (hlt:∀ b∈fp,b < s.heap.objs.size) {C:Addr} (hC:C=s.heap.objs.size) {fv:List (Option Nat)} (hlen:fv.length=N'.length)
  (hfv:∀ (i j:Nat) x,N'[i]?=some x->fv[i]?=some (some j)->X.N[j]?=some x/\(X.env.kindOf x=some .cell\/X.env.kindOf x=some .free)/\scope.names.lookup x=some .free) {h':Heap} {t':Nat} {m:Str->Option Value} (hn:h'.Ns C m) (hk:∀ b o,s.heap.get? b=some o->h'.get? b=some o) :
  Inv (zdl X N' scope (zea X.env scope.names []) C s H fp) [] (zno fv σ) H { s with heap:=h',toks:=t' }:=by
 have ok:=zrF (N':=N') I S hf hlt (C:=C) (Nat.le_of_eq hC.symm)
 have sub:=zhk (env:=X.env) scope.names [] (fun x c h=>by simp at h)
 refine ⟨ok,rfl,I.bare,Un.kept hk,⟨m,hn,fun i x v e1 e2 e3=>?_⟩,fun x c e=>?_,?_,fun x c e=>I.freeC x c (sub x c e),fun p hp=>?_,I.hok.kept hk,?_⟩
 ·have e1':N'[i]?=some x:=e1
  have e2':(zno fv σ)[i]?=some (some v):=e2
  unfold zno at e2'
  rw [qm] at e2'
  cases q:fv[i]? with
  | none=>rw [q] at e2';cases e2'
  | some o =>
   rw [q] at e2'
   cases o with
   | none=>cases e2'
   | some j =>
    have e2'':(σ[j]?).join=some v:=by simpa using e2'
    obtain ⟨hN,hkk,hfree⟩:=hfv i j x e1' q
    have hσ:σ[j]?=some (some v):=by
     cases z:σ[j]? with
     | none=>rw [z] at e2'';cases e2''
     | some w=>rw [z] at e2'';cases w with
      | none=>cases e2''
      | some w'=>simp at e2'';rw [e2'']
    obtain ⟨m0,hn0,hl⟩:=I.loc
    obtain ⟨u,r,l⟩:=hl j x v hN hσ (.inr hkk)
    refine ⟨u,r,.inr ⟨?_,?_⟩⟩
    ·rcases e3 with z | z | z
     ·have z':(relabel scope X.env).names.lookup x=some .local:=z
      rcases zcP _ _ _ z' with y | ⟨y,_⟩
      ·rw [hfree] at y;cases y
      ·cases y
     ·exact .inl z
     ·exact .inr z
    ·rcases l with ⟨k,_⟩ | ⟨_,c,hc,hcell⟩
     ·rcases hkk with y | y
      ·rw [k] at y;cases y
      ·rw [k] at y;cases y
     ·obtain ⟨c',hc'⟩:=Option.isSome_iff_exists.mp (zhl scope.names [] x c (PySem.mem_of_lookup hfree) hc)
      have e:=sub x c' hc'
      rw [hc] at e
      cases e
      obtain ⟨oc,ho,hd⟩:=hcell
      exact ⟨c,hc',oc,hk _ _ ho,hd⟩
 ·obtain ⟨v,oc,ho,hd⟩:=I.cell x c (sub x c e)
  exact ⟨v,oc,hk _ _ ho,hd⟩
 ·exact I.hok.fresh (Nat.le_of_eq hC.symm)
 ·exact absurd (show p∈([]:List (Addr×Obj)) from hp) (by simp)
 ·show (zno fv σ).length=N'.length
  unfold zno
  rw [qg,hlen]
theorem zpe (I:Inv X pins σ H s) {N':List Str} {scope:Scope} {cl:List (Str×Addr)} {fp:List Addr} (hf:∀ b∈fp,zl9 X pins H b) {C:Addr} (hC:s.heap.objs.size<=C) {σ':St} {H':Hp} {s':Shared} {pl:List (Addr×Obj)}
  (J:Inv (zdl X N' scope cl C s H fp) pl σ' H' s') {h':Heap} (hs:Heap.SameBut C s'.heap h'):Inv X pins σ H' { s' with heap:=h' }:=by
 have hCn:H' C=none:=J.free
 refine I.call' (ch:=fp) (s':={ s' with heap:=h' }) J.os ?_ ?_ J.bare fun b hb=>⟨(hf b hb).2.2.2.1,(hf b hb).2.1,(hf b hb).2.2.2.2.1,(hf b hb).2.2.2.2.2⟩
 ·have U:Un (frs X.stack) fp H H' s.heap s'.heap:=J.base
  have neC:∀ b o,s.heap.get? b=some o->b≠C:=fun b o e=>qB (qE (qv e) hC)
  refine ⟨fun b o e n h1 h2=>?_,fun b o e n h1 h2=>?_,U.free,fun b o e h2=>?_,U.tups,U.frzs,U.tbls⟩
  ·exact (hs.2 b (neC b o e)).trans (U.keep b o e n h1 h2)
  ·obtain ⟨sl,q⟩:=U.slot b o e n h1 h2
   exact ⟨sl,(hs.2 b (neC b o e)).trans q⟩
  ·obtain ⟨o',q⟩:=U.there b o e h2
   exact ⟨o',(hs.2 b (neC b o e)).trans q⟩
 ·intro b u e
  refine (J.hok b u e).stay (fun c v hc q=>(hs.2 c ?_).trans q) (fun _ q=>q) fun _ _ q=>q
  rintro rfl
  rcases hc with z | z
  ·rw [← z,hCn] at e;cases e
  ·rw [hCn] at z;cases z
end
end L2
end
section
namespace L2
open PySem PySem.Spec PyProof.Rows
def PTs (X:Cx) (es:List Expr) (t:TT):Prop :=
 ∀ (pins:List (Addr×Obj)) (s:Shared) (σ:St) (H:Hp) (Q:Bool->Hp->Prop),Inv X pins σ H s->t σ H Q ->
  wpAny (model X.prog X.w) X.A (forIn es true fun c r=>if r=true then do let ok ← isTrue c X.env (eval c X.env);pure (ForInStep.yield ok) else pure (ForInStep.yield r)) (TP X pins σ Q) X.xe s
def zt4:TT:=fun _ H Q=>Q true H
theorem zqv {X:Cx}:PTs X [] zt4:=fun _ _ _ H _ I h=>wpAny_tests_nil ⟨H,I,h⟩
theorem zqu {X:Cx} {c:Expr} {t:TT} (hc:PT X c t):PTs X [c] t:=fun pins s σ H Q I h=>wpAny_tests_one (hc pins s σ H Q I h)
def LcW (J:It) (g:TG) (tc:TT) (te:TE) (acc:Addr) (Q:V->Hp->Prop) (σ0:St) (H1:Hp):Prop :=
 ∃ W:Nat->Nat->List V->St->Hp->Prop,(∃ m,W 0 m [] σ0 (upd H1 acc (.lst [])))/\∀ i m ys σ' H',W i m ys σ' H'->H' acc=some (.lst ys) /\
  ((J.stop i H'/\Q (.ref acc) H')\/(J.go i H'/\∀ x H2,J.yld i H' x H2->g x σ' H2 fun σ2 H3=>tc σ2 H3 fun b H4 =>
   if b=true then te σ2 H4 fun v H5=>H5 acc=some (.lst ys)/\ys.length < sizeLine/\∃ m',m' < m/\W (i+1) m' (ys++[v]) σ2 (upd H5 acc (.lst (ys++[v])))
   else ∃ m',m' < m/\W (i+1) m' ys σ2 H4))
def tLC (wi:TI) (g:TG) (tc:TT) (te:TE) (fv:List (Option Nat)):TE:=fun σ H Q=>wi σ H fun J H1=>∀ acc,H1 acc=none->LcW J g tc te acc Q (zno fv σ) H1
def PB (X:Cx) (N':List Str) (scope:Scope) (tg:Expr) (ifs:List Expr) (elt:Expr) (g:TG) (tc:TT) (te:TE):Prop :=
 ∀ (cl:List (Str×Addr)) (C:Addr) (s₀:Shared) (H₀:Hp) (fp:List Addr),PG (zdl X N' scope cl C s₀ H₀ fp) tg g/\PTs (zdl X N' scope cl C s₀ H₀ fp) ifs tc/\PE (zdl X N' scope cl C s₀ H₀ fp) elt te
structure FvOk (X:Cx) (N':List Str) (scope:Scope) (fv:List (Option Nat)):Prop where
 len:fv.length=N'.length
 at':∀ (i j:Nat) x,N'[i]?=some x->fv[i]?=some (some j)->X.N[j]?=some x/\(X.env.kindOf x=some .cell\/X.env.kindOf x=some .free)/\scope.names.lookup x=some .free
section
variable {X:Cx} {elt tg iter:Expr} {ifs:List Expr} {scope:Scope} {pos:Pos} {N':List Str} {fv:List (Option Nat)} {g:TG} {tc:TT} {te:TE}
theorem zlt {pins:List (Addr×Obj)} {σ:St} {H1:Hp} {s2:Shared} {it:Addr} {fp:List Addr} {tn:Nat->Heap->Prop} {J:It} {Q:VK} {RR:Value->Addr->Result->Shared->Prop} (hc:X.calm=true) (S:CompScope X scope) (F:FvOk X N' scope fv) (hb:PB X N' scope tg ifs elt g tc te)
  (I2:Inv X pins σ H1 s2) (T:Turn X.prog X.w X.K tg J fp it tn) (st2:tn 0 s2.heap) (f2:∀ b∈fp,zl9 X pins H1 b) (q:∀ acc,H1 acc=none->LcW J g tc te acc Q (zno fv σ) H1)
  (hRR:∀ (a C:Addr) (H':Hp) (s':Shared) (m:Str->Option Value),s'.heap.Ns C m->(∀ h',Heap.SameBut C s'.heap h'->Inv X pins σ H' { s' with heap:=h' })->zl9 X pins H' C->Q (.ref a) H'->RR (.ref a) C (.ok .next) s') :
  wpAny (model X.prog X.w) X.A (newList []) (fun acc s₃=>wpAny (model X.prog X.w) X.A (newFunctionEnv scope X.env.globals (zea X.env scope.names []) [] X.env.qual none .none (some X.env)) (fun cenv s₄ =>
   codeAny (model X.prog X.w) X.A (.compStart (.ListComp elt [⟨tg,iter,ifs,0⟩] scope pos) 0 (.ref it) acc { cenv with scope:=relabel scope X.env }) (RR acc cenv.locals) s₄) X.xe s₃) X.xe s2:=by
 refine wpAny_newObj_type ?_
 have hacc:H1 s2.heap.objs.size=none:=I2.fresh
 have I3:Inv X pins σ (upd H1 s2.heap.objs.size (.lst [])) { s2 with heap:=s2.heap.push { cls:=.type "list",data:=.seq ([]:List Value).toArray } }:=I2.lnew (t':=s2.toks) .nil (Nat.zero_le _)
 generalize hs3:({ s2 with heap:=s2.heap.push { cls:=.type "list",data:=.seq ([]:List Value).toArray } }:Shared)=s3 at I3 ⊢
 have up:∀ b o,s2.heap.get? b=some o->s3.heap.get? b=some o:=fun b o e=>by rw [← hs3];exact qu _ e
 have lt2:∀ b∈fp,b < s2.heap.objs.size:=fun b hb=>by
  obtain ⟨o,e,_⟩:=T.obj 0 _ st2 b hb
  exact qv e
 have sz3:s2.heap.objs.size < s3.heap.objs.size:=by rw [← hs3];show _ < (s2.heap.push _).objs.size;rw [Heap.size_push];exact Nat.lt_succ_self _
 have lt3:∀ b∈fp,b < s3.heap.objs.size:=fun b hb=>Nat.lt_trans (lt2 b hb) sz3
 have f3:∀ b∈fp,zl9 X pins (upd H1 s2.heap.objs.size (.lst [])) b:=fun b hb=>⟨by rw [zap (qB (lt2 b hb))];exact (f2 b hb).1,(f2 b hb).2⟩
 have st3:tn 0 s3.heap:=T.keep _ _ _ st2 fun b _ o e=>up b o e
 refine wpAny_newFunctionEnv S.nocell (by intro y hy;simp at hy) (fun h4 hn4 sb4=>?_) S.kind
 have k4:∀ b o,s3.heap.get? b=some o->h4.get? b=some o:=fun b o e=>(sb4.2 b (qB (qv e))).trans (qu _ e)
 have st4:tn 0 h4:=T.keep _ _ _ st3 fun b _ o e=>k4 b o e
 have I4:=zl1 I3 S f3 lt3 (C:=s3.heap.objs.size) rfl F.len F.at' hn4 k4 (t':=s3.toks+([]:List (Str×Value)).length)
 generalize hX:zdl X N' scope (zea X.env scope.names []) s3.heap.objs.size s3 (upd H1 s2.heap.objs.size (.lst [])) fp=X' at I4
 obtain ⟨bg,bt,be⟩:=hb (zea X.env scope.names []) s3.heap.objs.size s3 (upd H1 s2.heap.objs.size (.lst [])) fp
 rw [hX] at bg bt be
 have hprog:X'.prog=X.prog:=by rw [← hX];rfl
 have hw:X'.w=X.w:=by rw [← hX];rfl
 have hK:X'.K=X.K:=by rw [← hX];rfl
 have hA:X'.A=X.A:=by rw [← hX];rfl
 have hcalm:X'.calm=true:=by rw [← hX];exact hc
 have hxe:X'.xe=fun _ _=>False:=by rw [← hX];rfl
 have henv:X'.env=compEnvC scope (zea X.env scope.names []) s3.heap.objs.size X.env:=by rw [← hX];rfl
 have stat:∀ {H':Hp},(∀ b∈fp,H' b=none)->∀ b∈fp,zl9 X' [] H' b:=fun {H'} hn b hb=>by
  have f:=f3 b hb
  have ok:=I4.ok
  refine ⟨hn b hb,(ok.exf b (by rw [← hX];exact hb)).1,ok.exfs b (by rw [← hX];exact hb),.inl (by rw [← hX];exact hb),fun x c e=>(ok.exf b (by rw [← hX];exact hb)).2 x c e,fun p hp=>?_⟩
  rw [← hX] at hp
  exact absurd (show p∈([]:List (Addr×Obj)) from hp) (by simp)
 obtain ⟨W,⟨m0,w0⟩,turn⟩:=q s2.heap.objs.size hacc
 have loop:∀ s5:Shared,s5={ s3 with heap:=h4,toks:=s3.toks+([]:List (Str×Value)).length } ->
   codeAny (model X.prog X.w) X.A (.compLoop (.ListComp elt [⟨tg,iter,ifs,0⟩] scope pos) 0 (.ref it) (.ref s2.heap.objs.size) (compEnvC scope (zea X.env scope.names []) s3.heap.objs.size X.env))
    (RR (.ref s2.heap.objs.size) s3.heap.objs.size) s5:=by
  intro s5 hs5
  refine zeM (fun n s'=>∃ i ys σ' H',Inv X' [] σ' H' s'/\tn i s'.heap/\(∀ b∈fp,H' b=none)/\W i n ys σ' H') ?_ m0 ⟨0,[],zno fv σ,_,hs5▸I4,hs5▸st4,fun b hb=>(f3 b hb).1,w0⟩
  rintro n s6 ⟨i,ys,σ6,H6,I6,st6,fr6,w6⟩
  obtain ⟨ha6,turn6⟩:=turn i n ys σ6 H6 w6
  rw [← henv]
  rcases turn6 with ⟨stop,qn⟩ | ⟨go,step⟩
  ·have d:=T.done X' hprog hw hK hcalm i [] s6 σ6 H6 (fun _ _=>False) I6 (stat fr6) st6 stop
   rw [hA] at d
   refine thn d fun r s7 ⟨hr,I7⟩=>?_
   subst hr
   obtain ⟨m7,hn7,_⟩:=I7.loc
   have hl:X'.env.locals=s3.heap.objs.size:=by rw [henv];rfl
   refine hRR _ _ H6 s7 m7 (hl▸hn7) (fun h' hs'=>?_) ?_ qn
   ·rw [← hX] at I7
    exact zpe I3 f3 (qw _) I7 hs'
   ·exact I3.fpOk (qw _) (by have:=I7.free;rw [hl] at this;exact this)
  ·have d:=T.item X' hprog hw hK hcalm i [] s6 σ6 H6 (fun _ _=>False) I6 (stat fr6) st6 go
   rw [hA] at d
   refine thn d fun r s7 ⟨u,hr,h7⟩=>?_
   subst hr
   refine thn h7 fun _ s8 ⟨x,H8,I8,r8,y8,st8,fr8⟩=>?_
   have I8':=I8.pinned (stat fr8) (T.obj _ _ st8)
   have dg:=bg _ s8 σ6 H8 x u _ I8' r8 (step x H8 y8)
   rw [hprog,hw,hA,hxe] at dg
   refine thn dg fun _ s9 ⟨σ9,H9,I9,q9⟩=>?_
   have dt:=bt _ s9 σ9 H9 _ I9 q9
   rw [hprog,hw,hA,hxe] at dt
   refine thn dt fun b s10 ⟨H10,I10,q10⟩=>?_
   have again:∀ {σ7:St} {H7:Hp} {s7:Shared} {ys':List V},Inv X' ([]++zjv fp s8.heap) σ7 H7 s7->(∃ m',m' < n/\W (i+1) m' ys' σ7 H7)->∃ m,m < n/\∃ i ys σ' H',Inv X' [] σ' H' s7/\tn i s7.heap/\(∀ b∈fp,H' b=none)/\W i m ys σ' H':=fun {σ7 H7 s7 ys'} I7 n7=>by
    obtain ⟨m',hm,w7⟩:=n7
    refine ⟨m',hm,i+1,ys',σ7,H7,I7.unpinned,T.keep _ _ _ st8 fun b hb o e=>(I7.pin (b,o) (qO _ (qO _ (zeH hb e)))).1,fun b hb=>?_,w7⟩
    obtain ⟨o,e,_⟩:=T.obj _ _ st8 b hb
    exact (I7.pin (b,o) (qO _ (qO _ (zeH hb e)))).2.1
   cases b with
   | false =>
    rw [qV qt] at q10 ⊢
    exact again I10 q10
   | true =>
    rw [qU rfl] at q10 ⊢
    have de:=be _ s10 σ9 H10 _ I10 q10
    rw [hprog,hw,hA,hxe] at de
    refine thn de fun v s11 ⟨y,H11,I11,r11,ha11,hz11,n11⟩=>?_
    have da:=zjy _ s11 σ9 H11 (.ref s2.heap.objs.size) [y] (.ref s2.heap.objs.size) [v] (fun _ H'=>H'=upd H11 s2.heap.objs.size (.lst (ys++[y]))) I11 rfl (.cons r11 .nil) ⟨_,ys,y,rfl,rfl,ha11,hz11,rfl⟩
    rw [hprog,hw,hA,hxe] at da
    refine thn da fun _ s12 ⟨_,H12,I12,_,e12⟩=>?_
    subst e12
    exact again I12 n11
 exact codeAny_compStart_list (loop _ rfl) (T.self _ 0 _ _ _ st4 (loop _ rfl))
theorem zup {wi:TI} (hc:X.calm=true) (S:CompScope X scope) (F:FvOk X N' scope fv) (hi:PI X tg iter wi) (hb:PB X N' scope tg ifs elt g tc te) (hs:∀ x,foldedSetIterable iter X.env x=pure x:=by intro _;rfl) :
  PE X (.ListComp elt [⟨tg,iter,ifs,0⟩] scope pos) (tLC wi g tc te fv):=by
 intro pins s σ H Q I h
 rw [eval_ListComp]
 refine wpAny_comprehension_free (use:=none) rfl hs (zgo I S) S.kind S.names (thn (hi pins s σ H _ I h) fun x s1 h1=>thn h1 fun itv s2 h2=>?_)
 obtain ⟨it,fp,tn,J,H1,e,I2,T,st2,f2,q⟩:=h2
 subst e
 refine zlt (RR:=fun acc C=>compPost (model X.prog X.w) X.A X.xe none (EP X pins σ Q) acc C) hc S F hb I2 T st2 f2 q ?_
 intro a C H' s' m hn hI hCL hq
 exact ⟨m,hn,fun h' hs'=>⟨.ref a,H',hI h' hs',rfl,hq⟩⟩
theorem zul {wi:TI} {i:Nat} {y:Str} {py spos:Pos} (hN:X.N.Nodup) (hy:X.N[i]?=some y) (hyl:X.env.scope.names.lookup y=some .local) (hc:X.calm=true) (S:CompScope X scope) (F:FvOk X N' scope fv) (hi:PI X tg iter wi) (hb:PB X N' scope tg ifs elt g tc te)
  (hsw:swapsWith (.ListComp elt [⟨tg,iter,ifs,0⟩] scope pos) (some (.Name y py)) spos.line X.env=pure true)
  (hs:∀ x,foldedSetIterable iter X.env x=pure x:=by intro _;rfl) :
  PS X (.Assign [.Name y py] (.ListComp elt [⟨tg,iter,ifs,0⟩] scope pos) spos) (zsm (tLC wi g tc te fv) (znn i)):=by
 intro pins s σ H D I h
 rw [exec_Assign_Name_used _ _ _ _ hsw]
 refine qx (wpAny_standAt (qx ?_))
 show wpAny _ _ (do let _ ← comprehension (.ListComp elt [⟨tg,iter,ifs,0⟩] scope pos) scope X.env _ (newList []) false (eval iter X.env) (some (assign (.Name y py) X.env))) _ _ s
 refine qx (wpAny_mono (wpAny_comprehension_free (use:=some (assign (.Name y py) X.env)) (Q:=fun _ s'=>SP X pins D .next s') rfl hs (zgo I S) S.kind S.names
  (thn (hi pins s σ H _ I h) fun x s1 h1=>thn h1 fun itv s2 h2=>?_)) (fun _ s' hq=>qz (qz hq)) fun _ _ e=>e)
 obtain ⟨it,fp,tn,J,H1,e,I2,T,st2,f2,q⟩:=h2
 subst e
 refine zlt (RR:=fun acc C=>compPost (model X.prog X.w) X.A X.xe (some (assign (.Name y py) X.env)) (fun _ s'=>SP X pins D .next s') acc C) hc S F hb I2 T st2 f2 q ?_
 intro a C H' s' m hn hI hCL hq
 show wpAny _ _ (assign (.Name y py) X.env (.ref a)) _ _ _
 have I':Inv X pins σ H' s':=hI s'.heap (Heap.SameBut.refl _ _)
 refine wpAny_assign_Name ?_
 refine zjj (v:=.ref a) I' hN hy (.inl hyl) rfl (fun s'' I'' hch=>?_) (.inr hyl)
 obtain ⟨ad,hsb,had⟩:=hch
 obtain ⟨f0,f1,f2',f3,f4,f5⟩:=hCL
 have hne:C≠ad:=by
  rcases had with z | z
  ·rw [z];exact f1
  ·exact fun e=>f4 y ad z e.symm
 refine ⟨m,hn.sameBut hsb hne,fun h' hs'=>?_⟩
 exact ⟨_,H',I''.turned (t':=s''.toks) (fun b o hb e=>(hs'.2 b hb).trans e) f0 f1 f3 f4 f5,hq⟩
end
end L2
end
section
namespace L2
open PySem PySem.Spec PyProof.Rows
def Its (x:Str):It:=⟨fun i _=>i < x.cps.size,fun i H v H'=>H'=H/\∃ c,x.cps[i]?=some c/\v=.str ⟨#[c]⟩,fun i _=>i=x.cps.size⟩
theorem zrl {M:Model} {A:Around} {E:Value->Shared->Prop} {s:Shared} {n:Str} {p:Pos} {it:Value} {u:Value} {Q:Unit->Shared->Prop} (hQ:Q () s):wpAny M A (letOwnedTupleGo (.Name n p) it u) Q E s:=qz hQ
theorem zkT {P:Program} {w:World} {K:PySem.W.Frag} {n:Str} {p:Pos} {ty:String} (it:Addr) (x:Str) (t:Tok)
  (W:∀ A:Around,A.handled=none->Walks P w A it [it] [it] x.cps.size (SignAt x) (fun i h=>h.IsStrIter it ty x t i))
  (sf:∀ (A:Around) (i:Nat) (s:Shared) (Q:Value->Shared->Prop) (E:Value->Shared->Prop),s.heap.IsStrIter it ty x t i->Q (.ref it) s->wpAny (model P w) A (pyIter (.ref it)) Q E s):Turn P w K (.Name n p) (Its x) [it] it (fun i h=>h.IsStrIter it ty x t i) where
 mem:=by simp
 obj:=fun i h st b hb=>by
  have e:b=it:=by simpa using hb
  subst e
  obtain ⟨o,e,c,d⟩:=st
  exact ⟨o,e,fun v z=>by rw [d] at z;cases z⟩
 keep:=fun i h h' st k=>by
  obtain ⟨o,e,r⟩:=st
  exact ⟨o,k it (by simp) o e,r⟩
 item:=by
  intro X hP hw hK hc i pins s σ H E I hf st hg
  subst hP hw hK
  obtain ⟨f0,f1,f2,f3,f4,f5⟩:=hf it (by simp)
  refine (W X.A (I.ok.hd hc)).item i s _ _ hg st fun v h' tk hv st' kk=>?_
  obtain ⟨c,u,hcc,rfl⟩:=hv
  have I1:Inv X pins σ H { s with heap:=h',toks:=tk }:=I.turned (fun b o hb e=>kk b o (by simpa using hb) e) f0 f1 f3 f4 f5
  exact ⟨_,rfl,zrl ⟨.str ⟨#[c]⟩,H,I1,⟨_,rfl⟩,⟨rfl,c,hcc,rfl⟩,st',fun b hb=>(hf b hb).1⟩⟩
 done:=by
  intro X hP hw hK hc i pins s σ H E I hf st hg
  subst hP hw hK
  obtain ⟨f0,f1,f2,f3,f4,f5⟩:=hf it (by simp)
  have hi:i=x.cps.size:=hg
  subst hi
  exact (W X.A (I.ok.hd hc)).done s _ _ st fun h' tk kk=>⟨rfl,I.turned (fun b o hb e=>kk b o (by simpa using hb) e) f0 f1 f3 f4 f5⟩
 self:=sf
def zvO (te:TE):TI:=fun σ H R=>te σ H fun v H1=>∃ x,v=.str x/\R (Its x) H1
theorem zsI {X:Cx} {e:Expr} {te:TE} {n:Str} {p:Pos} (he:PE X e te):PI X (.Name n p) e (zvO te):=by
 intro pins s σ H R I h
 refine thn (he pins s σ H _ I h) fun v s1 ⟨y,H1,I1,r1,q1⟩=>?_
 obtain ⟨x,e,q⟩:=q1
 subst e
 obtain ⟨t,rfl⟩:=r1
 have fin:∀ (ty:String) (o:Obj),(s1.heap.push o).IsStrIter s1.heap.objs.size ty x t 0->Turn X.prog X.w X.K (.Name n p) (Its x) [s1.heap.objs.size] s1.heap.objs.size (fun i h=>h.IsStrIter s1.heap.objs.size ty x t i) ->
   PIE X pins σ (.Name n p) R (.ref s1.heap.objs.size) { s1 with heap:=s1.heap.push o }:=fun ty o st T=>by
  refine ⟨s1.heap.objs.size,[s1.heap.objs.size],_,_,H1,rfl,I1.kept (t':=s1.toks) fun b o e=>qu _ e,T,st,fun b hb=>?_,q⟩
  have e:b=s1.heap.objs.size:=by simpa using hb
  subst e
  exact I1.fpOk (qw _) (I1.hok.fresh (qw _))
 cases ha:x.cps.all (· < 128)
 ·exact wpAny_pyIter_wide ha (fin _ _ ⟨_,qF _ rfl,rfl,rfl⟩ (zkT _ x t (fun A' hA=>Walks.strWide hA _ x t) fun _ _ _ _ _ st h=>wpAny_pyIter_striter_wide st h))
 ·exact wpAny_pyIter_ascii ha (fin _ _ ⟨_,qF _ rfl,rfl,rfl⟩ (zkT _ x t (fun A' hA=>Walks.strAscii hA _ x t) fun _ _ _ _ _ st h=>wpAny_pyIter_striter_ascii st h))
def Ite (K:PySem.W.Frag) (a:Addr):It :=
 ⟨fun i H=>∃ xs x,SqL K H a xs/\xs[i]?=some x,fun i H v H'=>∃ T x,v=.ref T/\H T=none/\H'=upd H T (.tup [.int i,x])/\∀ xs,SqL K H a xs->xs[i]?=some x,fun i H=>∃ xs,SqL K H a xs/\xs.length<=i⟩
theorem zmf {P:Program} {w:World} {K:PySem.W.Frag} {elts:List Expr} {k1:Nat} {pos:Pos} (e it a:Addr) (hei:e≠it) :
  Turn P w K (.Tuple elts k1 pos) (Ite K a) [e,it] e (fun i h=>(∃ old,IsEnum h e it i old)/\h.IsListIter it a i) where
 mem:=by simp
 obj:=fun i h st b hb=>by
  obtain ⟨⟨old,he⟩,o,ho,c,d⟩:=st
  rcases List.mem_cons.mp hb with z | z
  ·subst z
   exact ⟨_,he,fun v z=>by cases z⟩
  ·have z':b=it:=by simpa using z
   subst z'
   exact ⟨o,ho,fun v z=>by rw [d] at z;cases z⟩
 keep:=fun i h h' st k=>by
  obtain ⟨⟨old,he⟩,hi⟩:=st
  exact ⟨⟨old,k e (by simp) _ he⟩,hi.at fun o x=>k it (by simp) o x⟩
 item:=by
  intro X hP hw hK hc i pins s σ H E I hf st hg
  subst hP hw hK
  obtain ⟨xs,x,hq,hx⟩:=hg
  obtain ⟨its,rv,p,hz⟩:=I.list hq
  obtain ⟨u,hu,ru⟩:=rv.get hx
  obtain ⟨⟨old,he⟩,hit⟩:=st
  obtain ⟨e0,e1,e2,e3,e4,e5⟩:=hf e (by simp)
  obtain ⟨f0,f1,f2,f3,f4,f5⟩:=hf it (by simp)
  have helt:e < s.heap.objs.size:=qv he
  have hilt:it < s.heap.objs.size:=by obtain ⟨_,x,_⟩:=hit;exact qv x
  refine wpAny_pyNext_enum_item he hit p.isList (x:=u) (by simpa using hu) hei fun h' ho hit' hT hsz hk=>?_
  refine ⟨_,rfl,wpAny_letOwnedTupleGo_enum ho fun h2 he2 hs2=>?_⟩
  have hs2':Heap.SameBut e h' h2:=hs2
  have kk:∀ b o,b≠e->b≠it->s.heap.get? b=some o->h2.get? b=some o:=fun b o h1 h3 q=>(hs2'.2 b h1).trans (hk b o h1 h3 q)
  have hT2:h2.get? s.heap.objs.size=some { cls:=.type "tuple",data:=.seq #[.int i s.toks,u] }:=(hs2'.2 _ (Nat.ne_of_gt helt)).trans hT
  have nH:H s.heap.objs.size=none:=I.fresh
  have I1:Inv X pins σ (upd H s.heap.objs.size (.tup [.int i,x])) { s with heap:=h2,toks:=s.toks+1 }:=by
   have ne:∀ b o,H b=some o->b≠e/\b≠it:=fun b o q=>⟨fun z=>(by rw [z,e0] at q;cases q),fun z=>(by rw [z,f0] at q;cases q)⟩
   refine I.step (g':=s.gens) (d':=s.drawn) (ch:=[e,it]) (fun b hb=>?_) (fun b o _ _ hc q _=>kk b o (fun z=>hc (by simp [z])) (fun z=>hc (by simp [z])) q) (fun b o _ _ hc q _=>⟨o.slots,kk b o (fun z=>hc (by simp [z])) (fun z=>hc (by simp [z])) q⟩) (fun b o _ q n=>?_)
    (fun b o hc q=>⟨o,kk b o (fun z=>hc (by simp [z])) (fun z=>hc (by simp [z])) q⟩) (fun b ys q=>?_) (fun b o y q=>?_) (fun b ps q=>⟨#[],?_⟩) (fun m hm=>?_) (fun b v q=>?_) I.bare
   ·rcases List.mem_cons.mp hb with z | z
    ·subst z;exact ⟨e3,e1,e4,e5⟩
    ·have z':b=it:=by simpa using z
     subst z';exact ⟨f3,f1,f4,f5⟩
   ·rw [zap (qB (qv q))];exact n
   ·rw [zap (zan q nH)];exact q
   ·rw [zap (zan q nH)];exact q
   ·rw [zap (zan q nH),q];simp
   ·obtain ⟨o,es,ep,q,r⟩:=hm
    exact ⟨o,es,ep,kk _ o (Ne.symm e1) (Ne.symm f1) q,r⟩
   ·by_cases hb:b=s.heap.objs.size
    ·subst hb
     rw [zav] at q
     cases q
     exact ⟨by show 2<=sizeLine;decide,[.int i s.toks,u],.cons ⟨_,rfl⟩ (.cons ru .nil),⟨_,hT2,rfl,_,rfl⟩⟩
    ·rw [zap hb] at q
     refine (I.hok b v q).stay (fun c v hc r=>?_) (fun c r=>by rw [zap (zan r nH)];exact r) fun c ys r=>by rw [zap (zan r nH)];exact r
     rcases hc with z | z
     ·rw [z] at r ⊢;exact kk b v (ne b _ q).1 (ne b _ q).2 r
     ·exact kk c v (ne c _ z).1 (ne c _ z).2 r
  refine ⟨.ref s.heap.objs.size,_,I1,rfl,⟨_,x,rfl,nH,rfl,fun ys hy=>by rw [I.list_inj hy hq];exact hx⟩,⟨⟨_,by simpa using he2⟩,hit'.at fun o y=>(hs2'.2 it hei.symm).trans y⟩,fun b hb=>?_⟩
  rcases List.mem_cons.mp hb with z | z
  ·subst z;rw [zap (qB helt)];exact e0
  ·have z':b=it:=by simpa using z
   subst z';rw [zap (qB hilt)];exact f0
 done:=by
  intro X hP hw hK hc i pins s σ H E I hf st hg
  subst hP hw hK
  obtain ⟨xs,hq,hx⟩:=hg
  obtain ⟨its,rv,p,hz⟩:=I.list hq
  obtain ⟨⟨old,he⟩,hit⟩:=st
  obtain ⟨f0,f1,f2,f3,f4,f5⟩:=hf it (by simp)
  have hl:=rv.length
  exact wpAny_pyNext_enum_end (I.ok.hd hc) he hit p.isList (by simp;omega) fun h' eb=>⟨rfl,I.turned (t':=s.toks) (fun b o hb e=>eb b o hb e) f0 f1 f3 f4 f5⟩
 self:=fun A i s Q E st h=>by
  obtain ⟨⟨old,he⟩,_⟩:=st
  exact wpAny_pyIter_enum he h
def zuG (K:PySem.W.Frag) (ta:TA):TI:=fun σ H R=>ta σ H fun vs H1=>∃ a,vs=[.ref a]/\(∃ xs,SqL K H1 a xs)/\R (Ite K a) H1
theorem zqE {X:Cx} {a:Expr} {ta:TA} {p pos:Pos} {elts:List Expr} {k1:Nat} {tpos:Pos} (hg:Gl X "enumerate") (hm:X.mg "enumerate"=none) (ha:PA X [a] ta) (hs:starEach [a] X.env=[(false,eval a X.env)]:=by rfl) :
  PI X (.Tuple elts k1 tpos) (.Call (.Name "enumerate" p) [a] [] pos) (zuG X.K ta):=by
 intro pins s σ H R I h
 refine Call_ (zif I hg hm PyProof.Rows.boot_enumerate (PyProof.Rows.callWith_type1 (thn (ha pos pins s σ H _ I h) fun us s1 ⟨vs,H1,I1,r1,q1⟩=>?_) hs rfl))
 obtain ⟨l,e,⟨xs,hq⟩,q⟩:=q1
 subst e
 obtain ⟨u,rfl,r2⟩:=zeb r1
 cases r2
 obtain ⟨its,rv,pl,hz⟩:=I1.list hq
 refine call_enumerate_list pl.isList fun h' he hit hsz hk=>?_
 have I2:Inv X pins σ H1 { s1 with heap:=h' }:=I1.kept (t':=s1.toks) hk
 refine wpAny_pyIter_enum he ?_
 refine ⟨s1.heap.objs.size+1,[s1.heap.objs.size+1,s1.heap.objs.size],_,_,H1,rfl,I2,zmf _ _ l (Nat.succ_ne_self _),⟨⟨_,he⟩,hit⟩,fun b hb=>?_,q⟩
 rcases List.mem_cons.mp hb with z | z
 ·subst z;exact I1.fpOk (Nat.le_succ _) (I1.hok.fresh (Nat.le_succ _))
 ·have z':b=s1.heap.objs.size:=by simpa using z
  subst z';exact I1.fpOk (qw _) (I1.hok.fresh (qw _))
end L2
end
section
namespace L2
open PySem PySem.Spec PyProof.Rows
inductive D where
 | non | bl (b:Bool) | int (i:Int) | str (x:Str) | tup (l:List D) | lst (l:List D) | scr (ns:List Int)
 | dk (l:List (Key×D)) | fdk (l:List (Key×D)) | dt (l:List (List Key×D)) | ins (c:Str) (fs:List (Str×D)) | ty (n:String)
def zoR:Key->D
 | .inl i=>.int i
 | .inr x=>.str x
structure Cn where
 cls:Str->Option Addr
 self:Option Addr:=none
mutual
inductive Rep (Γ:Cn) (K:PySem.W.Frag) (G:Hp):V->D->Prop where
 | non:Rep Γ K G .non .non
 | bl (b:Bool):Rep Γ K G (.bl b) (.bl b)
 | int (i:Int):Rep Γ K G (.int i) (.int i)
 | str (x:Str):Rep Γ K G (.str x) (.str x)
 | ty (n:String):Rep Γ K G (.ty n) (.ty n)
 | tup {a:Addr} {vs:List V} {ds:List D}:G a=some (.tup vs)->Reps Γ K G vs ds->Rep Γ K G (.ref a) (.tup ds)
 | lst {a:Addr} {vs:List V} {ds:List D}:G a=some (.lst vs)->Reps Γ K G vs ds->Rep Γ K G (.ref a) (.lst ds)
 | scr {a:Addr} {ns:List Int}:SqL K G a (ns.map V.int)->Rep Γ K G (.ref a) (.scr ns)
 | dk {a:Addr} {us:List (Key×V)} {kvs:List (Key×D)}:G a=some (.dK us)->us.map (·.1)=kvs.map (·.1)->Reps Γ K G (us.map (·.2)) (kvs.map (·.2))->Rep Γ K G (.ref a) (.dk kvs)
 | fdk {a:Addr} {o:Obj} {us:List (Key×V)} {kvs:List (Key×D)}:G a=some (.frz o (.dK us))->us.map (·.1)=kvs.map (·.1)->Reps Γ K G (us.map (·.2)) (kvs.map (·.2))->Rep Γ K G (.ref a) (.fdk kvs)
 | dt {a:Addr} {us:List (List Key×V)} {kvs:List (List Key×D)}:G a=some (.dT us)->us.map (·.1)=kvs.map (·.1)->Reps Γ K G (us.map (·.2)) (kvs.map (·.2))->Rep Γ K G (.ref a) (.dt kvs)
 | ins {a C dx:Addr} {c:Str} {us:List (Str×V)} {fs:List (Str×D)}:G a=some (.ins C dx us)->Γ.cls c=some C->us.map (·.1)=fs.map (·.1)->Reps Γ K G (us.map (·.2)) (fs.map (·.2))->Rep Γ K G (.ref a) (.ins c fs)
inductive Reps (Γ:Cn) (K:PySem.W.Frag) (G:Hp):List V->List D->Prop where
 | nil:Reps Γ K G [] []
 | cons {v:V} {d:D} {vs:List V} {ds:List D}:Rep Γ K G v d->Reps Γ K G vs ds->Reps Γ K G (v::vs) (d::ds)
end
section
variable {Γ:Cn} {K:PySem.W.Frag} {G G' G1 H H' H1 H2 G2:Hp}
mutual
theorem Rep.mono:∀ {v:V} {d:D},Rep Γ K G v d->zbV G G'->Rep Γ K G' v d
 | _,_,.non,_=>.non
 | _,_,.bl b,_=>.bl b
 | _,_,.int i,_=>.int i
 | _,_,.str x,_=>.str x
 | _,_,.ty x,_=>.ty x
 | _,_,.tup h r,s=>.tup (s _ _ h) (r.mono s)
 | _,_,.lst h r,s=>.lst (s _ _ h) (r.mono s)
 | _,_,.scr h,s=>.scr (s.seq h)
 | _,_,.dk h e r,s=>.dk (s _ _ h) e (r.mono s)
 | _,_,.fdk h e r,s=>.fdk (s _ _ h) e (r.mono s)
 | _,_,.dt h e r,s=>.dt (s _ _ h) e (r.mono s)
 | _,_,.ins h c e r,s=>.ins (s _ _ h) c e (r.mono s)
theorem Reps.mono:∀ {vs:List V} {ds:List D},Reps Γ K G vs ds->zbV G G'->Reps Γ K G' vs ds
 | _,_,.nil,_=>.nil
 | _,_,.cons h r,s=>.cons (h.mono s) (r.mono s)
end
mutual
theorem Rep.re {Γ':Cn} (hc:Γ'.cls=Γ.cls):∀ {v:V} {d:D},Rep Γ K G v d->Rep Γ' K G v d
 | _,_,.non=>.non
 | _,_,.bl b=>.bl b
 | _,_,.int i=>.int i
 | _,_,.str x=>.str x
 | _,_,.ty x=>.ty x
 | _,_,.tup h r=>.tup h (r.re hc)
 | _,_,.lst h r=>.lst h (r.re hc)
 | _,_,.scr h=>.scr h
 | _,_,.dk h e r=>.dk h e (r.re hc)
 | _,_,.fdk h e r=>.fdk h e (r.re hc)
 | _,_,.dt h e r=>.dt h e (r.re hc)
 | _,_,.ins h c e r=>.ins h (by rw [hc];exact c) e (r.re hc)
theorem Reps.re {Γ':Cn} (hc:Γ'.cls=Γ.cls):∀ {vs:List V} {ds:List D},Reps Γ K G vs ds->Reps Γ' K G vs ds
 | _,_,.nil=>.nil
 | _,_,.cons h r=>.cons (h.re hc) (r.re hc)
end
theorem Reps.length:∀ {vs:List V} {ds:List D},Reps Γ K G vs ds->vs.length=ds.length
 | _,_,.nil=>rfl
 | _,_,.cons _ r=>by rw [qj,qj,r.length]
theorem Reps.get:∀ {vs:List V} {ds:List D} {i:Nat} {d:D},Reps Γ K G vs ds->ds[i]?=some d->∃ v,vs[i]?=some v/\Rep Γ K G v d
 | _,_,_,_,.nil,e=>by simp at e
 | _,_,0,_,.cons r _,e=>by simp at e;subst e;exact ⟨_,rfl,r⟩
 | _,_,i+1,d,.cons _ t,e=>by
  obtain ⟨u,h1,h2⟩:=Reps.get (i:=i) (d:=d) t (by simpa using e)
  exact ⟨u,by simpa using h1,h2⟩
theorem Reps.append:∀ {vs ws:List V} {ds es:List D},Reps Γ K G vs ds->Reps Γ K G ws es->Reps Γ K G (vs++ws) (ds++es)
 | _,_,_,_,.nil,s=>s
 | _,_,_,_,.cons r t,s=>.cons r (t.append s)
theorem Reps.take:∀ {vs:List V} {ds:List D} (n:Nat),Reps Γ K G vs ds->Reps Γ K G (vs.take n) (ds.take n)
 | _,_,0,_=>.nil
 | _,_,_+1,.nil=>.nil
 | _,_,n+1,.cons r t=>.cons r (t.take n)
theorem Reps.drop:∀ {vs:List V} {ds:List D} (n:Nat),Reps Γ K G vs ds->Reps Γ K G (vs.drop n) (ds.drop n)
 | _,_,0,r=>r
 | _,_,_+1,.nil=>.nil
 | _,_,n+1,.cons _ t=>t.drop n
theorem Reps.ints:∀ (ns:List Int),Reps Γ K G (ns.map V.int) (ns.map D.int)
 | []=>.nil
 | n::r=>.cons (.int n) (Reps.ints r)
theorem Reps.rep {vs:List V} {ds:List D} (h:Reps Γ K G vs ds):∀ k:Nat,Reps Γ K G (List.replicate k vs).flatten (List.replicate k ds).flatten
 | 0=>.nil
 | k+1=>by
  rw [List.replicate_succ,List.replicate_succ,List.flatten_cons,List.flatten_cons]
  exact h.append (Reps.rep h k)
structure Step (G H G' H':Hp):Prop where
 hh:zbV H H'
 gg:zbV G G'
 gh:zbV G' H'
 out:∀ a o,H a=some o->G' a=G a
theorem Step.refl (gh:zbV G H):Step G H G H:=⟨.refl _,.refl _,gh,fun _ _ _=>rfl⟩
theorem Step.trans (a:Step G H G1 H1) (b:Step G1 H1 G2 H2):Step G H G2 H2 :=
 ⟨a.hh.trans b.hh,a.gg.trans b.gg,b.gh,fun c o e=>(b.out c o (a.hh c o e)).trans (a.out c o e)⟩
theorem Step.new {p:Addr} {o:HO} (gh:zbV G H) (hp:H p=none):Step G H (upd G p o) (upd H p o):=by
 have gp:G p=none:=gh.free hp
 refine ⟨fun b u e=>?_,fun b u e=>?_,fun b u e=>?_,fun b u e=>?_⟩
 ·rw [zap (zan e hp)];exact e
 ·rw [zap (zan e gp)];exact e
 ·by_cases hb:b=p
  ·subst hb;rw [zav] at e ⊢;exact e
  ·rw [zap hb] at e ⊢;exact gh b u e
 ·rw [zap (zan e hp)]
theorem Step.newOwn {p:Addr} {o:HO} (gh:zbV G H) (hp:H p=none):Step G H G (upd H p o):=by
 refine ⟨fun b u e=>?_,.refl _,fun b u e=>?_,fun _ _ _=>rfl⟩
 ·rw [zap (zan e hp)];exact e
 ·rw [zap (zan (gh b u e) hp)];exact gh b u e
end
inductive Slot where
 | sh (d:D)
 | own (ds:List D)
 | obj (c:Str) (fs:List (Str×D))
 | objd (c:Str) (fs:List (Str×D)) (n:Str) (kvs:List (Key×D))
 | odk (kvs:List (Key×D))
 | odt (kvs:List (List Key×D))
 | tlo (ds es:List D)
 | pin (a:Addr)
 | oll (dss:List (List D))
abbrev zaZ:=List (Option Slot)
def zlY:D->Bool
 | .non=>true
 | .bl _=>true
 | .int _=>true
 | .str _=>true
 | _=>false
def zhv (H:Hp):List Addr->List (List V)->Prop
 | [],[]=>True
 | p::ps,vs::vss=>H p=some (.lst vs)/\zhv H ps vss
 | _,_=>False
def zn6 (Γ:Cn) (K:PySem.W.Frag) (G:Hp):List (List V)->List (List D)->Prop
 | [],[]=>True
 | vs::vss,ds::dss=>Reps Γ K G vs ds/\zn6 Γ K G vss dss
 | _,_=>False
theorem zhv.mem {H:Hp}:∀ {ps:List Addr} {vss:List (List V)},zhv H ps vss->∀ b∈ps,∃ o,H b=some o
 | [],_,_,b,hb=>by cases hb
 | p::ps,[],h,b,hb=>h.elim
 | p::ps,vs::vss,h,b,hb=>by
  rcases List.mem_cons.mp hb with rfl | hb
  ·exact ⟨_,h.1⟩
  ·exact h.2.mem b hb
theorem zhv.stay {H H':Hp}:∀ {ps:List Addr} {vss:List (List V)},zhv H ps vss->(∀ b∈ps,H' b=H b)->zhv H' ps vss
 | [],[],_,_=>trivial
 | [],_::_,h,_=>h.elim
 | p::ps,[],h,_=>h.elim
 | p::ps,vs::vss,h,e=>⟨(e p qh).trans h.1,h.2.stay fun b hb=>e b (qi _ hb)⟩
theorem zn6.map {Γ:Cn} {K:PySem.W.Frag} {G G':Hp} (f:∀ {vs:List V} {ds:List D},Reps Γ K G vs ds->Reps Γ K G' vs ds):∀ {vss:List (List V)} {dss:List (List D)},zn6 Γ K G vss dss->zn6 Γ K G' vss dss
 | [],[],_=>trivial
 | [],_::_,h=>h.elim
 | _::_,[],h=>h.elim
 | _::_,_::_,h=>⟨f h.1,h.2.map f⟩
theorem zk2:∀ {ps qs:List Addr},ps.map V.ref=qs.map V.ref->ps=qs
 | [],[],_=>rfl
 | [],_::_,h=>by cases h
 | _::_,[],h=>by cases h
 | p::ps,q::qs,h=>by
  have h1:=List.cons.inj h
  rw [V.ref.inj h1.1,zk2 h1.2]
inductive SR (Γ:Cn) (K:PySem.W.Frag) (H₀ G H:Hp):Slot->V->List Addr->Prop where
 | sh {d:D} {v:V}:Rep Γ K G v d->SR Γ K H₀ G H (.sh d) v []
 | own {a:Addr} {vs:List V} {ds:List D}:H₀ a=none->G a=none->H a=some (.lst vs)->Reps Γ K G vs ds->SR Γ K H₀ G H (.own ds) (.ref a) [a]
 | obj {c:Str} {a C dx:Addr} {vs:List (Str×V)} {fs:List (Str×D)}:Γ.cls c=some C->H₀ a=none->G a=none->H a=some (.ins C dx vs)->vs.map (·.1)=fs.map (·.1)->Reps Γ K G (vs.map (·.2)) (fs.map (·.2))->Γ.self=some a->SR Γ K H₀ G H (.obj c fs) (.ref a) [a]
 | objd {c n:Str} {a C dx p:Addr} {vs:List (Str×V)} {fs:List (Str×D)} {us:List (Key×V)} {kvs:List (Key×D)}:Γ.cls c=some C->H₀ a=none->G a=none->H a=some (.ins C dx (vs++[(n,.ref p)]))->vs.map (·.1)=fs.map (·.1)->Reps Γ K G (vs.map (·.2)) (fs.map (·.2)) ->
   H₀ p=none->G p=none->H p=some (.dK us)->us.map (·.1)=kvs.map (·.1)->Reps Γ K G (us.map (·.2)) (kvs.map (·.2))->Γ.self=some a->SR Γ K H₀ G H (.objd c fs n kvs) (.ref a) [a,p]
 | odk {a:Addr} {us:List (Key×V)} {kvs:List (Key×D)}:H₀ a=none->G a=none->H a=some (.dK us)->us.map (·.1)=kvs.map (·.1)->Reps Γ K G (us.map (·.2)) (kvs.map (·.2))->SR Γ K H₀ G H (.odk kvs) (.ref a) [a]
 | odt {a:Addr} {us:List (List Key×V)} {kvs:List (List Key×D)}:H₀ a=none->G a=none->H a=some (.dT us)->us.map (·.1)=kvs.map (·.1)->Reps Γ K G (us.map (·.2)) (kvs.map (·.2))->SR Γ K H₀ G H (.odt kvs) (.ref a) [a]
 | tlo {t p:Addr} {vs ws:List V} {ds es:List D}:H₀ p=none->G p=none->H p=some (.lst ws)->G t=some (.tup (vs++[.ref p]))->Reps Γ K G vs ds->Reps Γ K G ws es->SR Γ K H₀ G H (.tlo ds es) (.ref t) [p]
 | pin (a:Addr):SR Γ K H₀ G H (.pin a) (.ref a) []
 | oll {a:Addr} {ps:List Addr} {vss:List (List V)} {dss:List (List D)}:(∀ b∈a::ps,H₀ b=none/\G b=none)->(a::ps).Nodup->H a=some (.lst (ps.map V.ref))->zhv H ps vss->zn6 Γ K G vss dss->SR Γ K H₀ G H (.oll dss) (.ref a) (a::ps)
section
variable {Γ:Cn} {K:PySem.W.Frag} {H₀ G G' H H':Hp} {s:Slot} {v:V} {fp:List Addr}
theorem SR.fpt (r:SR Γ K H₀ G H s v fp):∀ b∈fp,H₀ b=none/\G b=none/\∃ o,H b=some o:=by
 cases r with
 | sh r=>intro b hb;cases hb
 | own h1 h2 h3 _=>intro b hb;rw [List.mem_singleton.mp hb];exact ⟨h1,h2,_,h3⟩
 | obj _ h1 h2 h3 _ _ _=>intro b hb;rw [List.mem_singleton.mp hb];exact ⟨h1,h2,_,h3⟩
 | objd _ h1 h2 h3 _ _ q1 q2 q3 _ _ _ =>
  intro b hb
  rcases List.mem_cons.mp hb with rfl | hb
  ·exact ⟨h1,h2,_,h3⟩
  ·rw [List.mem_singleton.mp hb];exact ⟨q1,q2,_,q3⟩
 | odk h1 h2 h3 _ _=>intro b hb;rw [List.mem_singleton.mp hb];exact ⟨h1,h2,_,h3⟩
 | odt h1 h2 h3 _ _=>intro b hb;rw [List.mem_singleton.mp hb];exact ⟨h1,h2,_,h3⟩
 | tlo h1 h2 h3 _ _ _=>intro b hb;rw [List.mem_singleton.mp hb];exact ⟨h1,h2,_,h3⟩
 | pin a=>intro b hb;cases hb
 | oll h1 h2 h3 h4 _ =>
  intro b hb
  refine ⟨(h1 b hb).1,(h1 b hb).2,?_⟩
  rcases List.mem_cons.mp hb with rfl | hb
  ·exact ⟨_,h3⟩
  ·exact h4.mem b hb
theorem SR.stay (r:SR Γ K H₀ G H s v fp) (gg:zbV G G') (hg:∀ b∈fp,G' b=none) (hh:∀ b∈fp,H' b=H b):SR Γ K H₀ G' H' s v fp:=by
 cases r with
 | sh r=>exact .sh (r.mono gg)
 | own h1 h2 h3 h4=>exact .own h1 (hg _ (List.mem_singleton.mpr rfl)) ((hh _ (List.mem_singleton.mpr rfl)).trans h3) (h4.mono gg)
 | obj c h1 h2 h3 h4 h5 hs=>exact .obj c h1 (hg _ (List.mem_singleton.mpr rfl)) ((hh _ (List.mem_singleton.mpr rfl)).trans h3) h4 (h5.mono gg) hs
 | objd c h1 h2 h3 h4 h5 q1 q2 q3 q4 q5 hs =>
  exact .objd c h1 (hg _ qh) ((hh _ qh).trans h3) h4 (h5.mono gg) q1 (hg _ (qi _ qh)) ((hh _ (qi _ qh)).trans q3) q4 (q5.mono gg) hs
 | odk h1 h2 h3 h4 h5=>exact .odk h1 (hg _ (List.mem_singleton.mpr rfl)) ((hh _ (List.mem_singleton.mpr rfl)).trans h3) h4 (h5.mono gg)
 | odt h1 h2 h3 h4 h5=>exact .odt h1 (hg _ (List.mem_singleton.mpr rfl)) ((hh _ (List.mem_singleton.mpr rfl)).trans h3) h4 (h5.mono gg)
 | pin a=>exact .pin a
 | oll h1 h2 h3 h4 h5=>exact .oll (fun b hb=>⟨(h1 b hb).1,hg b hb⟩) h2 ((hh _ qh).trans h3) (h4.stay fun b hb=>hh b (qi _ hb)) (h5.map fun r=>r.mono gg)
 | tlo h1 h2 h3 h4 h5 h6=>exact .tlo h1 (hg _ (List.mem_singleton.mpr rfl)) ((hh _ (List.mem_singleton.mpr rfl)).trans h3) (gg _ _ h4) (h5.mono gg) (h6.mono gg)
theorem SR.stepS (r:SR Γ K H₀ G H s v fp) (t:Step G H G' H'):SR Γ K H₀ G' H' s v fp:=r.stay t.gg (fun b hb=>by
 obtain ⟨_,h2,o,h3⟩:=r.fpt b hb
 exact (t.out b o h3).trans h2) (fun b hb=>by
 obtain ⟨_,_,o,h3⟩:=r.fpt b hb
 rw [h3];exact t.hh b o h3)
end
theorem SR.uniq {Γ:Cn} {K:PySem.W.Frag} {H₀ G H:Hp} {s:Slot} {v:V} {fp fq:List Addr} (r:SR Γ K H₀ G H s v fp) (q:SR Γ K H₀ G H s v fq):fp=fq:=by
 cases r with
 | sh r=>cases q;rfl
 | own h1 h2 h3 _=>cases q;rfl
 | obj _ h1 h2 h3 _ _ _=>cases q;rfl
 | objd _ h1 h2 h3 _ _ q1 q2 q3 _ _ _ =>
  cases q with
  | objd _ _ _ k3 _ _ _ _ _ _ _ _ =>
   rw [h3] at k3
   have z:=(HO.ins.inj (qG k3)).2.2
   have z2:=(List.append_inj' z rfl).2
   cases z2
   rfl
 | odk h1 h2 h3 _ _=>cases q;rfl
 | odt h1 h2 h3 _ _=>cases q;rfl
 | pin a=>cases q;rfl
 | oll _ _ h3 _ _ =>
  cases q with
  | oll _ _ k3 _ _ =>
   rw [h3] at k3
   rw [zk2 (HO.lst.inj (qG k3))]
 | tlo _ _ _ h4 _ _ =>
  cases q with
  | tlo _ _ _ k4 _ _ =>
   rw [h4] at k4
   have z:=HO.tup.inj (qG k4)
   have z2:=(List.append_inj' z rfl).2
   cases z2
   rfl
structure EnvRel (Γ:Cn) (K:PySem.W.Frag) (H₀ G H:Hp) (ρ:zaZ) (σ:St):Prop where
 len:ρ.length=σ.length
 sl:∃ fps:Nat->List Addr,(∀ (i:Nat) s,ρ[i]?=some (some s)->∃ v,σ[i]?=some (some v)/\SR Γ K H₀ G H s v (fps i)) /\
  ∀ (i j:Nat) s t,i≠j->ρ[i]?=some (some s)->ρ[j]?=some (some t)->∀ b∈fps i,b∉fps j
structure At (Γ:Cn) (K:PySem.W.Frag) (G₀ H₀ G H:Hp) (ρ:zaZ) (σ:St):Prop where
 st:Step G₀ H₀ G H
 env:EnvRel Γ K H₀ G H ρ σ
def zgb (ρ:zaZ):Prop:=∀ (i:Nat) s,ρ[i]?=some (some s)->∃ d,s=.sh d
section
variable {Γ:Cn} {K:PySem.W.Frag} {G₀ H₀ G G' H H':Hp} {ρ:zaZ} {σ:St}
theorem EnvRel.ofSh (len:ρ.length=σ.length) (no:zgb ρ) (sh:∀ (i:Nat) d,ρ[i]?=some (some (.sh d))->∃ v,σ[i]?=some (some v)/\Rep Γ K G v d):EnvRel Γ K H₀ G H ρ σ :=
 ⟨len,fun _=>[],fun i s e=>by
  obtain ⟨d,rfl⟩:=no i s e
  obtain ⟨v,h1,h2⟩:=sh i d e
  exact ⟨v,h1,.sh h2⟩,fun _ _ _ _ _ _ _ b hb=>by cases hb⟩
theorem EnvRel.sh (E:EnvRel Γ K H₀ G H ρ σ) (i:Nat) (d:D) (e:ρ[i]?=some (some (.sh d))):∃ v,σ[i]?=some (some v)/\Rep Γ K G v d:=by
 obtain ⟨fps,h,_⟩:=E.sl
 obtain ⟨v,h1,h2⟩:=h i _ e
 generalize fps i=fp at h2
 cases h2 with
 | sh r=>exact ⟨v,h1,r⟩
theorem EnvRel.own (E:EnvRel Γ K H₀ G H ρ σ) (i:Nat) (ds:List D) (e:ρ[i]?=some (some (.own ds))):∃ a vs,σ[i]?=some (some (.ref a))/\H₀ a=none/\G a=none/\H a=some (.lst vs)/\Reps Γ K G vs ds:=by
 obtain ⟨fps,h,_⟩:=E.sl
 obtain ⟨v,h1,h2⟩:=h i _ e
 generalize fps i=fp at h2
 cases h2 with
 | own q1 q2 q3 q4=>exact ⟨_,_,h1,q1,q2,q3,q4⟩
theorem At.gh (A:At Γ K G₀ H₀ G H ρ σ):zbV G H:=A.st.gh
theorem At.step (A:At Γ K G₀ H₀ G H ρ σ) (s:Step G H G' H'):At Γ K G₀ H₀ G' H' ρ σ:=by
 obtain ⟨fps,h,ap⟩:=A.env.sl
 exact ⟨A.st.trans s,A.env.len,fps,fun i t e=>by
  obtain ⟨v,h1,h2⟩:=h i t e
  exact ⟨v,h1,h2.stepS s⟩,ap⟩
theorem At.put (A:At Γ K G₀ H₀ G H ρ σ) {i:Nat} {s':Slot} {v':V} {fp fp':List Addr}
  (hfp:fp=[]\/∃ s v,ρ[i]?=some (some s)/\σ[i]?=some (some v)/\SR Γ K H₀ G H s v fp)
  (hH:∀ b o,H b=some o->b∉fp->H' b=some o) (hS:SR Γ K H₀ G' H' s' v' fp') (hn:∀ b∈fp',b∈fp\/H b=none)
  (gg:zbV G G') (gh:zbV G' H') (out:∀ b o,H b=some o->b∉fp->G' b=G b) (out2:∀ b∈fp,H₀ b=none):At Γ K G₀ H₀ G' H' (ρ.set i (some s')) (σ.set i (some v')):=by
 obtain ⟨fps,h,ap⟩:=A.env.sl
 have hl:=A.env.len
 have old:∀ b∈fp,∀ j t,j≠i->ρ[j]?=some (some t)->b∉fps j:=fun b hb j t hj e=>by
  rcases hfp with rfl | ⟨s,v,h1,h2,h3⟩
  ·cases hb
  ·obtain ⟨v2,h4,h5⟩:=h i s h1
   rw [h2] at h4
   cases h4
   have efp:fp=fps i:=h3.uniq h5
   subst efp
   exact ap i j s t (Ne.symm hj) h1 e b hb
 have slj:∀ (j:Nat) t,j≠i->ρ[j]?=some (some t)->∃ v,σ[j]?=some (some v)/\SR Γ K H₀ G' H' t v (fps j):=fun j t hj e=>by
  obtain ⟨v,h1,h2⟩:=h j t e
  refine ⟨v,h1,h2.stay gg (fun b hb=>?_) (fun b hb=>?_)⟩
  ·obtain ⟨_,q2,o,q3⟩:=h2.fpt b hb
   exact (out b o q3 fun z=>old b z j t hj e hb).trans q2
  ·obtain ⟨_,_,o,q3⟩:=h2.fpt b hb
   rw [q3];exact hH b o q3 fun z=>old b z j t hj e hb
 have no2:∀ b o,H₀ b=some o->b∉fp:=fun b o e z=>by rw [out2 b z] at e;cases e
 have hst:Step G₀ H₀ G' H':=⟨fun b o e=>hH b o (A.st.hh b o e) (no2 b o e),A.st.gg.trans gg,gh,fun b o e=>(out b o (A.st.hh b o e) (no2 b o e)).trans (A.st.out b o e)⟩
 refine ⟨hst,by simp [hl],fun j=>if j=i then fp' else fps j,fun j t e=>?_,fun j k t u hjk e1 e2 b hb=>?_⟩
 ·by_cases hj:j=i
  ·subst hj
   have hlt:j < ρ.length:=by
    rcases Nat.lt_or_ge j ρ.length with q | q
    ·exact q
    ·rw [List.getElem?_eq_none (by simp;omega)] at e;cases e
   rw [List.getElem?_set_self hlt] at e
   cases e
   show ∃ v,_/\SR _ _ _ _ _ _ v (if j=j then fp' else fps j)
   rw [qU rfl]
   exact ⟨v',by rw [List.getElem?_set_self (by omega)],hS⟩
  ·rw [List.getElem?_set_ne (Ne.symm hj)] at e ⊢
   show ∃ v,_/\SR _ _ _ _ _ _ v (if j=i then fp' else fps j)
   rw [qV hj]
   exact slj j t hj e
 ·have cross:∀ {k:Nat} {u:Slot},k≠i->ρ[k]?=some (some u)->∀ b∈fp',b∉fps k:=fun {k u} hk e b hb hb2=>by
   rcases hn b hb with z | z
   ·exact old b z k u hk e hb2
   ·obtain ⟨v,_,q⟩:=h k u e
    obtain ⟨_,_,o,q3⟩:=q.fpt b hb2
    rw [z] at q3;cases q3
  replace hb:b∈(if j=i then fp' else fps j):=hb
  show b∉(if k=i then fp' else fps k)
  by_cases hj:j=i
  ·subst hj
   have hk:k≠j:=Ne.symm hjk
   rw [qU rfl] at hb
   rw [qV hk]
   rw [List.getElem?_set_ne hjk] at e2
   exact cross hk e2 b hb
  ·rw [qV hj] at hb
   rw [List.getElem?_set_ne (Ne.symm hj)] at e1
   by_cases hk:k=i
   ·subst hk
    rw [qU rfl]
    exact fun z=>cross hj e1 b z hb
   ·rw [qV hk]
    rw [List.getElem?_set_ne (Ne.symm hk)] at e2
    exact ap j k t u hjk e1 e2 b hb
theorem At.setSh (A:At Γ K G₀ H₀ G H ρ σ) {i:Nat} {v:V} {d:D} (r:Rep Γ K G v d):At Γ K G₀ H₀ G H (ρ.set i (some (.sh d))) (σ.set i (some v)) :=
 A.put (fp:=[]) (fp':=[]) (.inl rfl) (fun b o e _=>e) (.sh r) (fun b hb=>by cases hb) (.refl _) A.gh (fun _ _ _ _=>rfl) (fun b hb=>by cases hb)
theorem At.setOwn (A:At Γ K G₀ H₀ G H ρ σ) {i:Nat} {a:Addr} {vs:List V} {ds:List D} (ha:H a=none) (r:Reps Γ K G vs ds):At Γ K G₀ H₀ G (upd H a (.lst vs)) (ρ.set i (some (.own ds))) (σ.set i (some (.ref a))):=by
 have h0:H₀ a=none:=A.st.hh.free ha
 have hg:G a=none:=A.gh.free ha
 refine A.put (fp:=[]) (fp':=[a]) (.inl rfl) (fun b o e _=>by rw [zap (zan e ha)];exact e) (.own h0 hg zav r) (fun b hb=>.inr (by rw [List.mem_singleton.mp hb];exact ha)) (.refl _) (fun b o e=>?_) (fun _ _ _ _=>rfl) (fun b hb=>by cases hb)
 rw [zap (zan e hg)];exact A.gh b o e
theorem zjl {α:Type} {l:List α} {i:Nat} {x:α} (h:l[i]?=some x):l.set i x=l:=by
 apply List.ext_getElem?
 intro j
 by_cases hj:j=i
 ·subst hj
  rw [List.getElem?_set_self (List.getElem?_eq_some_iff.mp h).1,h]
 ·rw [List.getElem?_set_ne (Ne.symm hj)]
theorem At.ch (A:At Γ K G₀ H₀ G H ρ σ) {i:Nat} {s s':Slot} {v:V} {fp fp':List Addr} (hi:ρ[i]?=some (some s)) (hv:σ[i]?=some (some v)) (hs:SR Γ K H₀ G H s v fp)
  (hH:∀ b o,H b=some o->b∉fp->H' b=some o) (hS:SR Γ K H₀ G' H' s' v fp') (hn:∀ b∈fp',b∈fp\/H b=none)
  (gg:zbV G G') (gh:zbV G' H') (out:∀ b o,H b=some o->b∉fp->G' b=G b):At Γ K G₀ H₀ G' H' (ρ.set i (some s')) σ:=by
 have:=A.put (i:=i) (.inr ⟨s,v,hi,hv,hs⟩) hH hS hn gg gh out fun b hb=>(hs.fpt b hb).1
 rwa [zjl hv] at this
theorem At.get (A:At Γ K G₀ H₀ G H ρ σ) {i:Nat} {s:Slot} (hi:ρ[i]?=some (some s)):∃ v fp,σ[i]?=some (some v)/\SR Γ K H₀ G H s v fp:=by
 obtain ⟨fps,h,_⟩:=A.env.sl
 obtain ⟨v,h1,h2⟩:=h i s hi
 exact ⟨v,_,h1,h2⟩
theorem At.chOwn (A:At Γ K G₀ H₀ G H ρ σ) {i:Nat} {a:Addr} {ds es:List D} {ws:List V} (hi:ρ[i]?=some (some (.own ds))) (ha:σ[i]?=some (some (.ref a))) (r:Reps Γ K G ws es):At Γ K G₀ H₀ G (upd H a (.lst ws)) (ρ.set i (some (.own es))) σ:=by
 obtain ⟨v,fp,h1,h2⟩:=A.get hi
 rw [ha] at h1
 cases h1
 cases h2 with
 | own q1 q2 q3 q4 =>
  refine A.ch hi ha (.own q1 q2 q3 q4) (fun b o e hb=>?_) (.own q1 q2 zav r) (fun b hb=>.inl hb) (.refl _) (fun b o e=>?_) (fun _ _ _ _=>rfl)
  ·rw [zap (fun z=>hb (List.mem_singleton.mpr z))];exact e
  ·rw [zap (zan e q2)];exact A.gh b o e
theorem At.freeze (A:At Γ K G₀ H₀ G H ρ σ) {i:Nat} {ds:List D} (hi:ρ[i]?=some (some (.own ds))):∃ G',zbV G G'/\At Γ K G₀ H₀ G' H (ρ.set i (some (.sh (.lst ds)))) σ:=by
 obtain ⟨v,fp,h1,h2⟩:=A.get hi
 cases h2 with
 | own q1 q2 q3 q4 =>
  rename_i a vs
  have sm:zbV G (upd G a (.lst vs)):=fun b o e=>by rw [zap (zan e q2)];exact e
  refine ⟨upd G a (.lst vs),sm,A.ch hi h1 (.own q1 q2 q3 q4) (fun b o e hb=>e) (.sh (.lst zav (q4.mono sm))) (fun b hb=>by cases hb) sm (fun b o e=>?_) (fun b o e hb=>?_)⟩
  ·by_cases hb:b=a
   ·subst hb;rw [zav] at e;cases e;exact q3
   ·rw [zap hb] at e;exact A.gh b o e
  ·rw [zap (fun z=>hb (List.mem_singleton.mpr z))]
end
end L2
end
section
namespace L2
open PySem PySem.Spec PyProof.Rows
mutual
inductive NewL (H G:Hp):V->D->Prop where
 | flat {v:V} {d:D}:zlY d=true->NewL H G v d
 | tup {a:Addr} {vs:List V} {ds:List D}:G a=some (.tup vs)->NewLs H G vs ds->NewL H G (.ref a) (.tup ds)
 | lst {a:Addr} {vs:List V} {ds:List D}:G a=some (.lst vs)->H a=none->NewLs H G vs ds->NewL H G (.ref a) (.lst ds)
inductive NewLs (H G:Hp):List V->List D->Prop where
 | nil:NewLs H G [] []
 | cons {v:V} {d:D} {vs:List V} {ds:List D}:NewL H G v d->NewLs H G vs ds->NewLs H G (v::vs) (d::ds)
end
section
variable {H H' G G':Hp}
mutual
theorem NewL.mono:∀ {v:V} {d:D},NewL H G v d->zbV G G'->zbV H' H->NewL H' G' v d
 | _,_,.flat h,_,_=>.flat h
 | _,_,.tup h r,s,t=>.tup (s _ _ h) (r.mono s t)
 | _,_,.lst h n r,s,t=>.lst (s _ _ h) (t.free n) (r.mono s t)
theorem NewLs.mono:∀ {vs:List V} {ds:List D},NewLs H G vs ds->zbV G G'->zbV H' H->NewLs H' G' vs ds
 | _,_,.nil,_,_=>.nil
 | _,_,.cons h r,s,t=>.cons (h.mono s t) (r.mono s t)
end
end
inductive Fl where
 | nx | bk | ct | rt (d:D) | ow (ds:List D) | nw (d:D) | od (kvs:List (Key×D))
abbrev FE:=zaZ->Option D
abbrev FT:=zaZ->Option Bool
abbrev FA:=zaZ->Option (List D)
abbrev FS:=zaZ->Option (Fl×zaZ)
def TD (Γ:Cn) (K:PySem.W.Frag) (f:FE):TE:=fun σ H Q=>∃ G₀ H₀ G ρ d,At Γ K G₀ H₀ G H ρ σ/\f ρ=some d/\∀ v G' H',Step G H G' H'->Rep Γ K G' v d->Q v H'
def TDt (Γ:Cn) (K:PySem.W.Frag) (f:FT):TT:=fun σ H Q=>∃ G₀ H₀ G ρ b,At Γ K G₀ H₀ G H ρ σ/\f ρ=some b/\∀ G' H',Step G H G' H'->Q b H'
def TDa (Γ:Cn) (K:PySem.W.Frag) (f:FA):TA:=fun σ H Q=>∃ G₀ H₀ G ρ ds,At Γ K G₀ H₀ G H ρ σ/\f ρ=some ds/\∀ vs G' H',Step G H G' H'->Reps Γ K G' vs ds->Q vs H'
def zuZ (Γ:Cn) (K:PySem.W.Frag) (E:Ends) (H₀ G' H':Hp) (σ':St):Fl->Prop
 | .nx=>E.nx σ' H'
 | .bk=>E.bk σ' H'
 | .ct=>E.ct σ' H'
 | .rt d=>∀ v,Rep Γ K G' v d->E.rt v H'
 | .ow ds=>∀ p vs,H₀ p=none->G' p=none->H' p=some (.lst vs)->Reps Γ K G' vs ds->E.rt (.ref p) H'
 | .nw d=>∀ v,Rep Γ K G' v d->NewL H₀ G' v d->E.rt v H'
 | .od kvs=>∀ p us,H₀ p=none->G' p=none->H' p=some (.dK us)->us.map (·.1)=kvs.map (·.1)->Reps Γ K G' (us.map (·.2)) (kvs.map (·.2))->E.rt (.ref p) H'
def TDs (Γ:Cn) (K:PySem.W.Frag) (g:FS):TS:=fun E σ H=>∃ G₀ H₀ G ρ fl ρ',At Γ K G₀ H₀ G H ρ σ/\g ρ=some (fl,ρ')/\∀ σ' G' H',zbV G G'->At Γ K G₀ H₀ G' H' ρ' σ'->zuZ Γ K E H₀ G' H' σ' fl
def TDo (Γ:Cn) (K:PySem.W.Frag) (f:FA):TE:=fun σ H Q=>∃ G₀ H₀ G ρ ds,At Γ K G₀ H₀ G H ρ σ/\f ρ=some ds/\∀ p vs G' H',Step G H G' H'->H' p=none->Reps Γ K G' vs ds->Q (.ref p) (upd H' p (.lst vs))
structure DE (Γ:Cn) (X:Cx) (e:Expr) (f:FE):Prop where
 out:PE X e (TD Γ X.K f)
structure DT (Γ:Cn) (X:Cx) (e:Expr) (f:FT):Prop where
 out:PT X e (TDt Γ X.K f)
structure DW (Γ:Cn) (X:Cx) (e:Expr) (f:FT):Prop where
 out:PW X e (TDt Γ X.K f)
structure DA (Γ:Cn) (X:Cx) (es:List Expr) (f:FA):Prop where
 out:PA X es (TDa Γ X.K f)
structure DS (Γ:Cn) (X:Cx) (st:Stmt) (g:FS):Prop where
 out:PS X st (TDs Γ X.K g)
structure DSs (Γ:Cn) (X:Cx) (st:List Stmt) (g:FS):Prop where
 out:PSs X st (TDs Γ X.K g)
structure DO (Γ:Cn) (X:Cx) (e:Expr) (f:FA):Prop where
 out:PE X e (TDo Γ X.K f)
section
variable {Γ:Cn} {X:Cx} {a b c e:Expr} {es:List Expr} {fa fb fc f:FE} {pos:Pos}
theorem PE.imp {t t':TE} (h:PE X e t) (i:∀ σ H Q,t' σ H Q->t σ H Q):PE X e t':=fun pins s σ H Q I q=>h pins s σ H Q I (i _ _ _ q)
theorem PT.imp {t t':TT} (h:PT X e t) (i:∀ σ H Q,t' σ H Q->t σ H Q):PT X e t':=fun pins s σ H Q I q=>h pins s σ H Q I (i _ _ _ q)
theorem PW.imp {t t':TT} (h:PW X e t) (i:∀ σ H Q,t' σ H Q->t σ H Q):PW X e t':=fun wh pins s σ H Q I q=>h wh pins s σ H Q I (i _ _ _ q)
theorem PA.imp {t t':TA} (h:PA X es t) (i:∀ σ H Q,t' σ H Q->t σ H Q):PA X es t':=fun p pins s σ H Q I q=>h p pins s σ H Q I (i _ _ _ q)
theorem PS.imp {st:Stmt} {t t':TS} (h:PS X st t) (i:∀ E σ H,t' E σ H->t E σ H):PS X st t':=fun pins s σ H E I q=>h pins s σ H E I (i _ _ _ q)
theorem PSs.imp {st:List Stmt} {t t':TS} (h:PSs X st t) (i:∀ E σ H,t' E σ H->t E σ H):PSs X st t':=fun pins s σ H E I q=>h pins s σ H E I (i _ _ _ q)
def vSh (i:Nat):FE:=fun ρ=>match ρ[i]? with
 | some (some (.sh d))=>some d
 | _=>none
theorem zob {i:Nat} {ρ:zaZ} {d:D} (h:vSh i ρ=some d):ρ[i]?=some (some (.sh d)):=by
 unfold vSh at h
 split at h
 ·rename_i e;cases h;exact e
 ·cases h
theorem zac (i:Nat) {x:Str} (hN:X.N[i]?=some x:=by rfl) (hv:Vis X.env.scope x:=by first | exact Or.inl rfl | exact Or.inr (Or.inl rfl) | exact Or.inr (Or.inr rfl)) (hd:(x==("__debug__":Str))=false:=by decide)
  (hcd:(x==("__classdict__":Str))=false:=by decide):DE Γ X (.Name x pos) (vSh i):=⟨(zd6 hN hv hd hcd).imp fun σ H Q ⟨G₀,H₀,G,ρ,d,A,h,k⟩=>by
 obtain ⟨v,h1,h2⟩:=A.env.sh i d (zob h)
 exact ⟨v,h1,k v G H (.refl A.gh) h2⟩⟩
def vC (d:D):FE:=fun _=>some d
theorem TD.const {d:D} {v:V} (r:∀ G,Rep Γ X.K G v d) (h:PE X e (tC v)):DE Γ X e (vC d):=⟨h.imp fun σ H Q ⟨G₀,H₀,G,ρ,d',A,h,k⟩=>by
 cases h
 exact k v G H (.refl A.gh) (r G)⟩
theorem zae {i j}:DE Γ X (.Constant (.int i) j pos) (vC (.int i)):=TD.const (fun _=>.int i) zmG
theorem zfi {i j}:DE Γ X (.Constant (.bool i) j pos) (vC (.bl i)):=TD.const (fun _=>.bl i) zur
theorem zcv {j}:DE Γ X (.Constant .none j pos) (vC .non):=TD.const (fun _=>.non) zsQ
theorem zcD {i j}:DE Γ X (.Constant (.str i) j pos) (vC (.str i)):=TD.const (fun _=>.str i) zsN
theorem zcR {x:Str} {i:Int} {t:Tok} (hg:Gl X x) (hm:X.mg x=some (.int i t)) (hd:(x==("__debug__":Str))=false:=by decide):DE Γ X (.Name x pos) (vC (.int i)):=TD.const (fun _=>.int i) (zqJ hg hm ⟨t,rfl⟩ hd)
def b2 (g:D->D->Option D) (fa fb:FE):FE:=fun ρ=>(fa ρ).bind fun x=>(fb ρ).bind fun y=>g x y
def b1 (g:D->Option D) (fa:FE):FE:=fun ρ=>(fa ρ).bind g
def zkL (Γ:Cn) (K:PySem.W.Frag) (g:D->D->Option D) (r:R2):Prop :=
 ∀ {G H v u x y z},zbV G H->Rep Γ K G v x->Rep Γ K G u y->g x y=some z->∀ Q:VK,(∀ w G' H',Step G H G' H'->Rep Γ K G' w z->Q w H')->r v u H Q
theorem TD.two {g:D->D->Option D} {r:R2} (hr:zkL Γ X.K g r):∀ σ H Q,TD Γ X.K (b2 g fa fb) σ H Q->tOp r (TD Γ X.K fa) (TD Γ X.K fb) σ H Q:=by
 rintro σ H Q ⟨G₀,H₀,G,ρ,d,A,h,k⟩
 unfold b2 at h
 cases ha:fa ρ with
 | none=>rw [ha] at h;cases h
 | some x =>
  cases hb:fb ρ with
  | none=>rw [ha] at h;simp only [qc,hb,Option.bind_none] at h;cases h
  | some y =>
   simp only [ha,hb,qc] at h
   refine ⟨G₀,H₀,G,ρ,x,A,ha,fun v G1 H1 s1 r1=>⟨G₀,H₀,G1,ρ,y,A.step s1,hb,fun u G2 H2 s2 r2=>?_⟩⟩
   exact hr s2.gh (r1.mono s2.gg) r2 h Q fun w G' H' s r=>k w G' H' ((s1.trans s2).trans s) r
theorem zl0 {op:Operator} {g:D->D->Option D} {r:R2} (ho:OpR X (binaryOp op) r) (hr:zkL Γ X.K g r) (ha:DE Γ X a fa) (hb:DE Γ X b fb):DE Γ X (.BinOp a op b pos) (b2 g fa fb):=⟨(zuo ho ha.1 hb.1).imp (TD.two hr)⟩
def zbv:D->D->Option D
 | .int i,.int j=>some (.int (i+j))
 | .str x,.str y=>if x.length+y.length<=sizeLine then some (.str (x++y)) else none
 | .lst x,.lst y=>if x.length+y.length<=sizeLine then some (.lst (x++y)) else none
 | _,_=>none
def zpt:D->D->Option D
 | .int i,.int j=>some (.int (i - j))
 | _,_=>none
def zn8 (x:Str) (n:Nat):Str:=⟨(List.replicate n x.cps.toList).flatten.toArray⟩
def zdX:D->D->Option D
 | .int i,.int j=>if (-(2 ^ 64) < i/\i < 2 ^ 64)\/(-(2 ^ 64) < j/\j < 2 ^ 64) then some (.int (i*j)) else none
 | .lst x,.int j=>if -(2 ^ 63)<=j/\j < 2 ^ 63/\x.length*j.toNat<=sizeLine then some (.lst (List.replicate j.toNat x).flatten) else none
 | .str x,.int j=>if 0<=j/\j < 1000/\x.length < 1000 then some (.str (zn8 x j.toNat)) else none
 | _,_=>none
def zfh:D->D->Option D
 | .int i,.int j=>if 0 < j/\j < 1073741824 then some (.int (i / j)) else none
 | _,_=>none
def zb6:D->D->Option D
 | .int i,.int j=>if 0 < j then some (.int (i % j)) else none
 | _,_=>none
def zr5:D->D->Option D
 | .int i,.int j=>if 0<=j/\j<=1000000/\i.natAbs < 2 ^ 64 then some (.int (i ^ j.toNat)) else none
 | _,_=>none
theorem Rep.int_inv {K:PySem.W.Frag} {G:Hp} {v:V} {i:Int} (r:Rep Γ K G v (.int i)):v=.int i:=by cases r;rfl
theorem Rep.str_inv {K:PySem.W.Frag} {G:Hp} {v:V} {i:Str} (r:Rep Γ K G v (.str i)):v=.str i:=by cases r;rfl
theorem Rep.bl_inv {K:PySem.W.Frag} {G:Hp} {v:V} {i:Bool} (r:Rep Γ K G v (.bl i)):v=.bl i:=by cases r;rfl
theorem Rep.lst_inv {K:PySem.W.Frag} {G:Hp} {v:V} {ds:List D} (r:Rep Γ K G v (.lst ds)):∃ a vs,v=.ref a/\G a=some (.lst vs)/\Reps Γ K G vs ds:=by cases r;exact ⟨_,_,rfl,by assumption,by assumption⟩
theorem Rep.tup_inv {K:PySem.W.Frag} {G:Hp} {v:V} {ds:List D} (r:Rep Γ K G v (.tup ds)):∃ a vs,v=.ref a/\G a=some (.tup vs)/\Reps Γ K G vs ds:=by cases r;exact ⟨_,_,rfl,by assumption,by assumption⟩
theorem Rep.scr_inv {K:PySem.W.Frag} {G:Hp} {v:V} {ns:List Int} (r:Rep Γ K G v (.scr ns)):∃ a,v=.ref a/\SqL K G a (ns.map V.int):=by cases r;exact ⟨_,rfl,by assumption⟩
theorem zdW {K:PySem.W.Frag} {G H:Hp} {vs:List V} {ds:List D} {Q:VK} (gh:zbV G H) (r:Reps Γ K G vs ds) (k:∀ w G' H',Step G H G' H'->Rep Γ K G' w (.lst ds)->Q w H'):∀ p,H p=none->Q (.ref p) (upd H p (.lst vs)):=fun p hp=>by
 have s:=Step.new (o:=.lst vs) gh hp
 exact k _ _ _ s (.lst zav (r.mono s.gg))
theorem zkl {K:PySem.W.Frag} {G H:Hp} {vs:List V} {ds:List D} {Q:VK} (gh:zbV G H) (r:Reps Γ K G vs ds) (k:∀ w G' H',Step G H G' H'->Rep Γ K G' w (.tup ds)->Q w H'):∀ p,H p=none->Q (.ref p) (upd H p (.tup vs)):=fun p hp=>by
 have s:=Step.new (o:=.tup vs) gh hp
 exact k _ _ _ s (.tup zav (r.mono s.gg))
theorem zo2 {K:PySem.W.Frag}:zkL Γ K zbv (fun x y H Q=>(rI0 (fun i j=>V.int (i+j)) x y H Q\/(∃ i j,x=.str i/\y=.str j/\i.length+j.length<=sizeLine/\Q (.str (i++j)) H))\/zuj x y H Q):=by
 intro G H v u x y z gh r1 r2 h Q k
 unfold zbv at h
 split at h
 ·cases h
  cases r1.int_inv;cases r2.int_inv
  exact .inl (.inl ⟨_,_,rfl,rfl,k _ G H (.refl gh) (.int _)⟩)
 ·split at h
  ·cases h
   cases r1.str_inv;cases r2.str_inv
   exact .inl (.inr ⟨_,_,rfl,rfl,by assumption,k _ G H (.refl gh) (.str _)⟩)
  ·cases h
 ·split at h
  ·rename_i hz
   cases h
   obtain ⟨a,vs,rfl,ha,ra⟩:=r1.lst_inv
   obtain ⟨b,us,rfl,hb,rb⟩:=r2.lst_inv
   exact .inr ⟨a,b,vs,us,rfl,rfl,gh _ _ ha,gh _ _ hb,by rw [ra.length,rb.length];exact hz,zdW gh (ra.append rb) k⟩
  ·cases h
 ·cases h
theorem zqT:OpR X (binaryOp .Add) (fun x y H Q=>(rI0 (fun i j=>V.int (i+j)) x y H Q\/(∃ i j,x=.str i/\y=.str j/\i.length+j.length<=sizeLine/\Q (.str (i++j)) H))\/zuj x y H Q):=(zs6.or zlN).or zs5
theorem za9 (ha:DE Γ X a fa) (hb:DE Γ X b fb):DE Γ X (.BinOp a .Add b pos) (b2 zbv fa fb):=zl0 zqT zo2 ha hb
theorem znw {K:PySem.W.Frag} {g:D->D->Option D} {o:Int->Int->Int} (hg:∀ x y z,g x y=some z->∃ i j,x=.int i/\y=.int j/\z=.int (o i j)):zkL Γ K g (rI0 fun i j=>V.int (o i j)):=by
 intro G H v u x y z gh r1 r2 h Q k
 obtain ⟨i,j,rfl,rfl,rfl⟩:=hg x y z h
 cases r1.int_inv;cases r2.int_inv
 exact ⟨_,_,rfl,rfl,k _ G H (.refl gh) (.int _)⟩
theorem zhg {K:PySem.W.Frag} {g:D->D->Option D} {C:Int->Int->Prop} {o:Int->Int->Int} (hg:∀ x y z,g x y=some z->∃ i j,x=.int i/\y=.int j/\C i j/\z=.int (o i j)):zkL Γ K g (rI C fun i j=>V.int (o i j)):=by
 intro G H v u x y z gh r1 r2 h Q k
 obtain ⟨i,j,rfl,rfl,hc,rfl⟩:=hg x y z h
 cases r1.int_inv;cases r2.int_inv
 exact ⟨_,_,rfl,rfl,hc,k _ G H (.refl gh) (.int _)⟩
theorem zpS (ha:DE Γ X a fa) (hb:DE Γ X b fb):DE Γ X (.BinOp a .Sub b pos) (b2 zpt fa fb):=zl0 zsV (znw fun x y z h=>by
 unfold zpt at h;split at h <;> cases h;exact ⟨_,_,rfl,rfl,rfl⟩) ha hb
theorem zf5 (ha:DE Γ X a fa) (hb:DE Γ X b fb):DE Γ X (.BinOp a .FloorDiv b pos) (b2 zfh fa fb):=zl0 zqR (zhg fun x y z h=>by
 unfold zfh at h;split at h
 ·split at h <;> cases h;exact ⟨_,_,rfl,rfl,by assumption,rfl⟩
 ·cases h) ha hb
theorem zbR (ha:DE Γ X a fa) (hb:DE Γ X b fb):DE Γ X (.BinOp a .Mod b pos) (b2 zb6 fa fb):=zl0 zs0 (zhg fun x y z h=>by
 unfold zb6 at h;split at h
 ·split at h <;> cases h;exact ⟨_,_,rfl,rfl,by assumption,rfl⟩
 ·cases h) ha hb
theorem ztC (ha:DE Γ X a fa) (hb:DE Γ X b fb):DE Γ X (.BinOp a .Pow b pos) (b2 zr5 fa fb):=zl0 zsX (zhg fun x y z h=>by
 unfold zr5 at h;split at h
 ·split at h <;> cases h;exact ⟨_,_,rfl,rfl,by assumption,rfl⟩
 ·cases h) ha hb
theorem zll (a:Array Nat):∀ (k:Nat) (acc:List Nat),(List.replicate k a).foldl (·++·) acc.toArray=(acc++(List.replicate k a.toList).flatten).toArray
 | 0,acc=>by simp
 | k+1,acc=>by
  rw [List.replicate_succ,List.foldl_cons,List.replicate_succ,List.flatten_cons,← List.append_assoc,← zll a k (acc++a.toList)]
  congr 1
  simp
def zsA:R2:=fun x y H Q=>∃ z n,x=.str z/\y=.int n/\0<=n/\n < 1000/\z.length < 1000/\Q (.str (zn8 z n.toNat)) H
theorem zqQ:OpR X (binaryOp .Mult) zsA:=by
 intro pins s σ H x y v u Q I rx ry h
 obtain ⟨z,n,rfl,rfl,h0,h1,h2,q⟩:=h
 obtain ⟨t,rfl⟩:=rx
 obtain ⟨t',rfl⟩:=ry
 have hl:z.length*n.toNat<=1000000:=qK (Nat.mul_le_mul (Nat.le_of_lt h2) (show n.toNat<=1000 by omega)) (by decide)
 have e0:(List.replicate n.toNat z.cps).foldl (·++·) #[]=(zn8 z n.toNat).cps:=by
  have:=zll z.cps n.toNat []
  simpa [zn8] using this
 refine PySem.P.mul_str ?_ (fun h _=>?_) (fun _ _=>?_) ?_
 ·rw [qL (by omega),qL (by omega)];rfl
 ·have e:(z.length:Int)*n=((z.length*n.toNat:Nat):Int):=by rw [Int.natCast_mul];congr 1;omega
  have:(z.length:Int)<=(2 ^ 63 - 1:Int) / n:=Int.le_ediv_of_mul_le (by omega) (by rw [e];omega)
  omega
 ·unfold Builtin.Str.tooLong
  exact qL (by have:=sizeLine_eq;omega)
 ·split
  ·have:n=0:=by omega
   subst this
   exact ⟨by decide,⟨.str _,H,I.tok _,⟨_,rfl⟩,by simpa [zn8,Str.empty] using q⟩⟩
  ·split
   ·rename_i hc
    have ez:zn8 z n.toNat=z:=by
     rcases Bool.or_eq_true _ _▸hc with e | e
     ·have:n=1:=by simpa using e
      subst this
      simp [zn8]
     ·have hz:z.cps=#[]:=by
       have:z.cps.size=0:=by simpa [Str.length] using e
       exact Array.eq_empty_of_size_eq_zero this
      cases z
      simp only at hz
      subst hz
      simp [zn8]
    exact ⟨.str _,H,I,⟨_,rfl⟩,by rw [← ez];exact q⟩
   ·rw [e0]
    refine ⟨?_,⟨.str _,H,I.tok _,⟨_,rfl⟩,q⟩⟩
    have e1:(zn8 z n.toNat).length=n.toNat*z.length:=by
     show (List.replicate n.toNat z.cps.toList).flatten.toArray.size=_
     rw [qA,zm8]
     simp [Str.length]
    show (zn8 z n.toNat).length<=sizeLine
    rw [e1,Nat.mul_comm]
    have:=sizeLine_eq
    omega
theorem zo1 {K:PySem.W.Frag}:zkL Γ K zdX (fun x y H Q=>(rI zt2 (fun i j=>V.int (i*j)) x y H Q\/zu5 x y H Q)\/zsA x y H Q):=by
 intro G H v u x y z gh r1 r2 h Q k
 unfold zdX at h
 split at h
 ·split at h
  ·cases h
   cases r1.int_inv;cases r2.int_inv
   exact .inl (.inl ⟨_,_,rfl,rfl,by assumption,k _ G H (.refl gh) (.int _)⟩)
  ·cases h
 ·split at h
  ·rename_i hz
   cases h
   obtain ⟨a,vs,rfl,ha,ra⟩:=r1.lst_inv
   cases r2.int_inv
   exact .inl (.inr ⟨a,_,vs,rfl,rfl,gh _ _ ha,hz.1,hz.2.1,by rw [ra.length];exact hz.2.2,zdW gh (ra.rep _) k⟩)
  ·cases h
 ·split at h
  ·rename_i hz
   cases h
   cases r1.str_inv
   cases r2.int_inv
   exact .inr ⟨_,_,rfl,rfl,hz.1,hz.2.1,hz.2.2,k _ G H (.refl gh) (.str _)⟩
  ·cases h
 ·cases h
theorem zdH (ha:DE Γ X a fa) (hb:DE Γ X b fb):DE Γ X (.BinOp a .Mult b pos) (b2 zdX fa fb):=zl0 ((zsZ.or zsW).or zqQ) zo1 ha hb
end
end L2
end
section
namespace L2
open PySem PySem.Spec PyProof.Rows
section
variable {Γ:Cn} {X:Cx} {a b c e:Expr} {es:List Expr} {fa fb fc f:FE} {pos:Pos}
theorem Rep.non_inv {K:PySem.W.Frag} {G:Hp} {v:V} (r:Rep Γ K G v .non):v=.non:=by cases r;rfl
def ltS (x y:Str):Bool:=decide (x.cps.toList < y.cps.toList)
def ltD:D->D->Option D
 | .int i,.int j=>some (.bl (decide (i < j)))
 | .str x,.str y=>some (.bl (ltS x y))
 | _,_=>none
def leD:D->D->Option D
 | .int i,.int j=>some (.bl (decide (i<=j)))
 | .str x,.str y=>some (.bl (!ltS y x))
 | _,_=>none
def gtD:D->D->Option D
 | .int i,.int j=>some (.bl (decide (j < i)))
 | _,_=>none
def eqS:D->D->Option Bool
 | .int i,.int j=>some (decide (i=j))
 | .bl i,.bl j=>some (decide (i=j))
 | .str i,.str j=>some (decide (i=j))
 | .non,.non=>some true
 | .non,.int _=>some false | .int _,.non=>some false | .non,.bl _=>some false | .bl _,.non=>some false | .non,.str _=>some false | .str _,.non=>some false
 | .int _,.str _=>some false | .str _,.int _=>some false | .bl _,.str _=>some false | .str _,.bl _=>some false
 | _,_=>none
def eqD (x y:D):Option D:=(eqS x y).map D.bl
def neD (x y:D):Option D:=(eqS x y).map fun b=>D.bl (!b)
theorem zpO {K:PySem.W.Frag} {G:Hp} {v u:V} {x y:D} {k:Bool} (r1:Rep Γ K G v x) (r2:Rep Γ K G u y) (h:eqS x y=some k):zug v u=true/\decide (v=u)=k:=by
 unfold eqS at h
 split at h <;> cases h
 ·cases r1.int_inv;cases r2.int_inv;exact ⟨rfl,by simp⟩
 ·cases r1.bl_inv;cases r2.bl_inv;exact ⟨rfl,by simp⟩
 ·cases r1.str_inv;cases r2.str_inv;exact ⟨rfl,by simp⟩
 ·cases r1.non_inv;cases r2.non_inv;exact ⟨rfl,by simp⟩
 ·cases r1.non_inv;cases r2.int_inv;exact ⟨rfl,by simp⟩
 ·cases r1.int_inv;cases r2.non_inv;exact ⟨rfl,by simp⟩
 ·cases r1.non_inv;cases r2.bl_inv;exact ⟨rfl,by simp⟩
 ·cases r1.bl_inv;cases r2.non_inv;exact ⟨rfl,by simp⟩
 ·cases r1.non_inv;cases r2.str_inv;exact ⟨rfl,by simp⟩
 ·cases r1.str_inv;cases r2.non_inv;exact ⟨rfl,by simp⟩
 ·cases r1.int_inv;cases r2.str_inv;exact ⟨rfl,by simp⟩
 ·cases r1.str_inv;cases r2.int_inv;exact ⟨rfl,by simp⟩
 ·cases r1.bl_inv;cases r2.str_inv;exact ⟨rfl,by simp⟩
 ·cases r1.str_inv;cases r2.bl_inv;exact ⟨rfl,by simp⟩
theorem zry {K:PySem.W.Frag}:zkL Γ K eqD rEq:=by
 intro G H v u x y z gh r1 r2 h Q k
 unfold eqD at h
 cases e:eqS x y with
 | none=>rw [e] at h;cases h
 | some b =>
  rw [e] at h
  cases h
  obtain ⟨h1,h2⟩:=zpO r1 r2 e
  exact ⟨h1,by rw [h2];exact k _ G H (.refl gh) (.bl _)⟩
theorem zru {K:PySem.W.Frag}:zkL Γ K neD rNe:=by
 intro G H v u x y z gh r1 r2 h Q k
 unfold neD at h
 cases e:eqS x y with
 | none=>rw [e] at h;cases h
 | some b =>
  rw [e] at h
  cases h
  obtain ⟨h1,h2⟩:=zpO r1 r2 e
  exact ⟨h1,by rw [h2];exact k _ G H (.refl gh) (.bl _)⟩
theorem znv {K:PySem.W.Frag} {g:D->D->Option D} {o:Int->Int->Bool} (hg:∀ x y z,g x y=some z->∃ i j,x=.int i/\y=.int j/\z=.bl (o i j)):zkL Γ K g (rI0 fun i j=>V.bl (o i j)):=by
 intro G H v u x y z gh r1 r2 h Q k
 obtain ⟨i,j,rfl,rfl,rfl⟩:=hg x y z h
 cases r1.int_inv;cases r2.int_inv
 exact ⟨_,_,rfl,rfl,k _ G H (.refl gh) (.bl _)⟩
theorem zmL:OpR X (compareOp .LtE) (fun x y H Q=>∃ i j,x=.str i/\y=.str j/\Q (.bl (!ltS j i)) H):=by
 intro pins s σ H x y v u Q I rx ry h
 obtain ⟨i,j,rfl,rfl,q⟩:=h
 obtain ⟨t,rfl⟩:=rx
 obtain ⟨t',rfl⟩:=ry
 exact PySem.P.le_str (zbs I q (by simp [ltS]))
theorem zrv {K:PySem.W.Frag}:zkL Γ K ltD (fun x y H Q=>rI0 (fun i j=>V.bl (decide (i < j))) x y H Q\/∃ i j,x=.str i/\y=.str j/\Q (.bl (decide (i.cps.toList < j.cps.toList))) H):=by
 intro G H v u x y z gh r1 r2 h Q k
 unfold ltD at h
 split at h <;> cases h
 ·cases r1.int_inv;cases r2.int_inv;exact .inl ⟨_,_,rfl,rfl,k _ G H (.refl gh) (.bl _)⟩
 ·cases r1.str_inv;cases r2.str_inv;exact .inr ⟨_,_,rfl,rfl,k _ G H (.refl gh) (.bl _)⟩
theorem zrw {K:PySem.W.Frag}:zkL Γ K leD (fun x y H Q=>rI0 (fun i j=>V.bl (decide (i<=j))) x y H Q\/∃ i j,x=.str i/\y=.str j/\Q (.bl (!ltS j i)) H):=by
 intro G H v u x y z gh r1 r2 h Q k
 unfold leD at h
 split at h <;> cases h
 ·cases r1.int_inv;cases r2.int_inv;exact .inl ⟨_,_,rfl,rfl,k _ G H (.refl gh) (.bl _)⟩
 ·cases r1.str_inv;cases r2.str_inv;exact .inr ⟨_,_,rfl,rfl,k _ G H (.refl gh) (.bl _)⟩
structure CmpD (Γ:Cn) (X:Cx) (op:CmpOp) (g:D->D->Option D):Prop where
 ex:∃ r,OpR X (compareOp op) r/\zkL Γ X.K g r
theorem ziZ:CmpD Γ X .Lt ltD:=⟨_,zut.or zmK,zrv⟩
theorem zi0:CmpD Γ X .LtE leD:=⟨_,zuu.or zmL,zrw⟩
theorem zph:CmpD Γ X .Gt gtD:=⟨_,zuv,znv fun x y z h=>by unfold gtD at h;split at h <;> cases h;exact ⟨_,_,rfl,rfl,rfl⟩⟩
theorem zf6:CmpD Γ X .Eq eqD:=⟨_,zuw,zry⟩
theorem zuN:CmpD Γ X .NotEq neD:=⟨_,zus,zru⟩
theorem zew {op:CmpOp} {g:D->D->Option D} (h:CmpD Γ X op g) (ha:DE Γ X a fa) (hb:DE Γ X b fb) (hm:behindInMarks op b=false):DE Γ X (.Compare a [op] [b] pos) (b2 g fa fb):=⟨by
 obtain ⟨r,ho,hr⟩:=h.ex
 exact (zqL ho ha.1 hb.1 hm).imp (TD.two hr)⟩
def chD (g g':D->D->Option D) (fa fb fc:FE):FE:=fun ρ=>(fa ρ).bind fun x=>(fb ρ).bind fun y=>(g x y).bind fun z=>match z with
 | .bl true=>(fc ρ).bind fun w=>g' y w
 | .bl false=>some (.bl false)
 | _=>none
theorem TD.chain {g g':D->D->Option D} {r r':R2} (hr:zkL Γ X.K g r) (hr':zkL Γ X.K g' r'):∀ σ H Q,TD Γ X.K (chD g g' fa fb fc) σ H Q->zmk r r' (TD Γ X.K fa) (TD Γ X.K fb) (TD Γ X.K fc) σ H Q:=by
 rintro σ H Q ⟨G₀,H₀,G,ρ,d,A,h,k⟩
 unfold chD at h
 obtain ⟨x,ha,h⟩:=oBd h
 obtain ⟨y,hb,h⟩:=oBd h
 obtain ⟨z,hz,h⟩:=oBd h
 refine ⟨G₀,H₀,G,ρ,x,A,ha,fun v G1 H1 s1 r1=>⟨G₀,H₀,G1,ρ,y,A.step s1,hb,fun u G2 H2 s2 r2=>?_⟩⟩
 refine hr s2.gh (r1.mono s2.gg) r2 hz _ fun w G3 H3 s3 r3=>?_
 split at h
 ·cases r3.bl_inv
  obtain ⟨w,hc,h⟩:=oBd h
  refine ⟨true,rfl,zr8 ⟨G₀,H₀,G3,ρ,w,((A.step s1).step s2).step s3,hc,fun q G4 H4 s4 r4=>?_⟩⟩
  exact hr' s4.gh ((r2.mono s3.gg).mono s4.gg) r4 h Q fun w' G' H' s r=>k w' G' H' ((((s1.trans s2).trans s3).trans s4).trans s) r
 ·cases r3.bl_inv
  cases h
  exact ⟨false,rfl,zr9 (k _ G3 H3 ((s1.trans s2).trans s3) (.bl _))⟩
 ·cases h
theorem ziW {op op':CmpOp} {g g':D->D->Option D} (h:CmpD Γ X op g) (h':CmpD Γ X op' g') (ha:DE Γ X a fa) (hb:DE Γ X b fb) (hc:DE Γ X c fc) (hm:lastMarks [op,op'] [b,c]=false:=by with_unfolding_all rfl) :
  DE Γ X (.Compare a [op,op'] [b,c] pos) (chD g g' fa fb fc):=⟨by
 obtain ⟨r,ho,hr⟩:=h.ex
 obtain ⟨r',ho',hr'⟩:=h'.ex
 exact (zoC ho ho' ha.1 hb.1 hc.1 hm).imp (TD.chain hr hr')⟩
def toB (f:FE):FT:=fun ρ=>(f ρ).bind fun d=>match d with
 | .bl b=>some b
 | _=>none
theorem TDt.val {f:FE}:∀ σ H Q,TDt Γ X.K (toB f) σ H Q->TD Γ X.K f σ H fun x H'=>∃ k,x=.bl k/\Q k H':=by
 rintro σ H Q ⟨G₀,H₀,G,ρ,b,A,h,k⟩
 unfold toB at h
 obtain ⟨d,hd,h⟩:=oBd h
 split at h <;> cases h
 exact ⟨G₀,H₀,G,ρ,_,A,hd,fun v G' H' s r=>⟨b,r.bl_inv,k G' H' s⟩⟩
theorem zbe {op:CmpOp} {g:D->D->Option D} (h:CmpD Γ X op g) (ha:DE Γ X a fa) (hb:DE Γ X b fb) (hm:behindInMarks op b=false):DT Γ X (.Compare a [op] [b] pos) (toB (b2 g fa fb)):=⟨by
 obtain ⟨r,ho,hr⟩:=h.ex
 exact (zqw ho ha.1 hb.1 hm).imp fun σ H Q q=>TD.two hr σ H _ (TDt.val σ H Q q)⟩
theorem zoZ {op op':CmpOp} {g g':D->D->Option D} (h:CmpD Γ X op g) (h':CmpD Γ X op' g') (ha:DE Γ X a fa) (hb:DE Γ X b fb) (hc:DE Γ X c fc) (hm:lastMarks [op,op'] [b,c]=false:=by with_unfolding_all rfl) :
  DT Γ X (.Compare a [op,op'] [b,c] pos) (toB (chD g g' fa fb fc)):=⟨by
 obtain ⟨r,ho,hr⟩:=h.ex
 obtain ⟨r',ho',hr'⟩:=h'.ex
 exact (zot ho ho' ha.1 hb.1 hc.1 hm).imp fun σ H Q q=>TD.chain hr hr' σ H _ (TDt.val σ H Q q)⟩
theorem zbh (h:DE Γ X e f) (he:∀ whole,isTrue e X.env whole=(do let v ← whole;standAt e.pos;holding [v] (truthy v)):=by intro _;rfl):DT Γ X e (toB f):=⟨(zsE h.1 he).imp TDt.val⟩
def zcZ (f:FT):FT:=fun ρ=>(f ρ).map (!·)
def zj3 (f g:FT):FT:=fun ρ=>(f ρ).bind fun b=>if b=true then g ρ else some false
def orT (f g:FT):FT:=fun ρ=>(f ρ).bind fun b=>if b=true then some true else g ρ
variable {ft gt:FT} {zgL:List Expr}
theorem DW.dt {e:Expr} (h:DW Γ X e ft):DT Γ X e ft:=⟨h.1.pt⟩
theorem zbt (h:DT Γ X a ft):DT Γ X (.UnaryOp .Not a pos) (zcZ ft):=⟨(zsF h.1).imp fun σ H Q=>by
 rintro ⟨G₀,H₀,G,ρ,b,A,h,k⟩
 unfold zcZ at h
 obtain ⟨c,hc,h⟩:=oMd h
 exact ⟨G₀,H₀,G,ρ,c,A,hc,fun G' H' s=>by show Q (!c) H';rw [h];exact k G' H' s⟩⟩
theorem zhf (h:DT Γ X a ft):DW Γ X (.BoolOp .And [a] pos) ft:=⟨zqt h.1⟩
theorem zcT (h:DT Γ X a ft):DW Γ X (.BoolOp .Or [a] pos) ft:=⟨zsC h.1⟩
theorem zjM (h:DT Γ X a ft) (h':DW Γ X (.BoolOp .And (b::zgL) pos) gt):DW Γ X (.BoolOp .And (a::b::zgL) pos) (zj3 ft gt):=⟨(zsD h.1 h'.1).imp fun σ H Q=>by
 rintro ⟨G₀,H₀,G,ρ,r,A,h,k⟩
 unfold zj3 at h
 obtain ⟨c,hc,h⟩:=oBd h
 refine ⟨G₀,H₀,G,ρ,c,A,hc,fun G1 H1 s1=>?_⟩
 cases c with
 | true=>exact zr8 ⟨G₀,H₀,G1,ρ,r,A.step s1,by simpa using h,fun G' H' s=>k G' H' (s1.trans s)⟩
 | false =>
  rw [qV qt] at h
  cases h
  exact zr9 (k _ _ s1)⟩
theorem zdv (h:DT Γ X a ft) (h':DW Γ X (.BoolOp .Or (b::zgL) pos) gt):DW Γ X (.BoolOp .Or (a::b::zgL) pos) (orT ft gt):=⟨(zuk h.1 h'.1).imp fun σ H Q=>by
 rintro ⟨G₀,H₀,G,ρ,r,A,h,k⟩
 unfold orT at h
 obtain ⟨c,hc,h⟩:=oBd h
 refine ⟨G₀,H₀,G,ρ,c,A,hc,fun G1 H1 s1=>?_⟩
 cases c with
 | false=>exact zr9 ⟨G₀,H₀,G1,ρ,r,A.step s1,by simpa using h,fun G' H' s=>k G' H' (s1.trans s)⟩
 | true =>
  rw [qU rfl] at h
  cases h
  exact zr8 (k _ _ s1)⟩
def zht (fa fb:FE):FE:=fun ρ=>(fa ρ).bind fun d=>match d with
 | .bl true=>fb ρ
 | .bl false=>some (.bl false)
 | _=>none
def zr6 (fa:FE):FE:=fun ρ=>(fa ρ).bind fun d=>match d with
 | .bl b=>some (.bl (!b))
 | _=>none
theorem zeU {op} (h:DE Γ X a fa):DE Γ X (.BoolOp op [a] pos) fa:=⟨zsO h.1⟩
theorem zd7 (ha:DE Γ X a fa) (hb:DE Γ X (.BoolOp .And (b::zgL) pos) fb):DE Γ X (.BoolOp .And (a::b::zgL) pos) (zht fa fb):=⟨(zsS ha.1 hb.1).imp fun σ H Q=>by
 rintro ⟨G₀,H₀,G,ρ,d,A,h,k⟩
 unfold zht at h
 obtain ⟨x,hx,h⟩:=oBd h
 refine ⟨G₀,H₀,G,ρ,x,A,hx,fun v G1 H1 s1 r1=>?_⟩
 split at h
 ·cases r1.bl_inv
  exact ⟨true,rfl,zr8 ⟨G₀,H₀,G1,ρ,d,A.step s1,h,fun w G' H' s r=>k w G' H' (s1.trans s) r⟩⟩
 ·cases r1.bl_inv
  cases h
  exact ⟨false,rfl,zr9 (k _ G1 H1 s1 (.bl _))⟩
 ·cases h⟩
theorem zpT (ha:DE Γ X a fa):DE Γ X (.UnaryOp .Not a pos) (zr6 fa):=⟨(zsP ha.1).imp fun σ H Q=>by
 rintro ⟨G₀,H₀,G,ρ,d,A,h,k⟩
 unfold zr6 at h
 obtain ⟨x,hx,h⟩:=oBd h
 refine ⟨G₀,H₀,G,ρ,x,A,hx,fun v G1 H1 s1 r1=>?_⟩
 split at h
 ·cases r1.bl_inv
  cases h
  exact ⟨_,rfl,k _ G1 H1 s1 (.bl _)⟩
 ·cases h⟩
def zal:FA:=fun _=>some []
def zaa (fa:FE) (fr:FA):FA:=fun ρ=>(fa ρ).bind fun x=>(fr ρ).map (x::·)
variable {fr:FA}
theorem zag:DA Γ X [] zal:=⟨zfA.imp fun σ H Q=>by
 rintro ⟨G₀,H₀,G,ρ,d,A,h,k⟩
 cases h
 exact k _ G H (.refl A.gh) .nil⟩
theorem zab (ha:DE Γ X e fa) (hr:DA Γ X es fr) (hs:starEach (e::es) X.env=(false,eval e X.env)::starEach es X.env:=by rfl):DA Γ X (e::es) (zaa fa fr):=⟨(zdV ha.1 hr.1 hs).imp fun σ H Q=>by
 rintro ⟨G₀,H₀,G,ρ,d,A,h,k⟩
 unfold zaa at h
 obtain ⟨x,hx,h⟩:=oBd h
 obtain ⟨xs,hxs,h⟩:=oMd h
 subst h
 exact ⟨G₀,H₀,G,ρ,x,A,hx,fun v G1 H1 s1 r1=>⟨G₀,H₀,G1,ρ,xs,A.step s1,hxs,fun vs G2 H2 s2 r2=>k _ G2 H2 (s1.trans s2) (.cons (r1.mono s2.gg) r2)⟩⟩⟩
def szF (fr:FA):FA:=fun ρ=>(fr ρ).bind fun l=>if l.length<=sizeLine then some l else none
def za1 (fr:FA):FE:=fun ρ=>(fr ρ).map D.lst
def zbW (fr:FA):FE:=fun ρ=>(fr ρ).map D.tup
theorem DO.de (h:DO Γ X e fr):DE Γ X e (za1 fr):=⟨h.1.imp fun σ H Q=>by
 rintro ⟨G₀,H₀,G,ρ,d,A,h,k⟩
 unfold za1 at h
 obtain ⟨ds,hd,rfl⟩:=oMd h
 exact ⟨G₀,H₀,G,ρ,ds,A,hd,fun p vs G' H' s hp r=>zdW s.gh r (fun w G2 H2 s2 r2=>k w G2 H2 (s.trans s2) r2) p hp⟩⟩
theorem zbF (h:DA Γ X es fr):DO Γ X (.List es pos) (szF fr):=⟨(zsR h.1).imp fun σ H Q=>by
 rintro ⟨G₀,H₀,G,ρ,d,A,h,k⟩
 unfold szF at h
 obtain ⟨ds,hd,h⟩:=oBd h
 split at h
 ·rename_i hz
  cases h
  exact ⟨G₀,H₀,G,ρ,d,A,hd,fun vs G' H' s r=>⟨by rw [r.length];exact hz,fun p hp=>k p vs G' H' s hp r⟩⟩
 ·cases h⟩
theorem zbJ {x1} (h:DA Γ X es fr):DE Γ X (.Tuple es x1 pos) (zbW (szF fr)):=⟨(zsM h.1).imp fun σ H Q=>by
 rintro ⟨G₀,H₀,G,ρ,d,A,h,k⟩
 unfold zbW szF at h
 obtain ⟨ds',hd',rfl⟩:=oMd h
 obtain ⟨ds,hd,h⟩:=oBd hd'
 split at h
 ·rename_i hz
  cases h
  exact ⟨G₀,H₀,G,ρ,ds',A,hd,fun vs G' H' s r=>⟨by rw [r.length];exact hz,zkl s.gh r fun w G2 H2 s2 r2=>k w G2 H2 (s.trans s2) r2⟩⟩
 ·cases h⟩
def zrZ (Γ:Cn) (K:PySem.W.Frag) (g:List D->Option D) (r:List V->Hp->VK->Prop):Prop :=
 ∀ {G H vs ds z},zbV G H->Reps Γ K G vs ds->g ds=some z->∀ Q:VK,(∀ w G' H',Step G H G' H'->Rep Γ K G' w z->Q w H')->r vs H Q
def cF (g:List D->Option D) (fr:FA):FE:=fun ρ=>(fr ρ).bind g
theorem TD.call {g:List D->Option D} {r:List V->Hp->VK->Prop} (hr:zrZ Γ X.K g r):∀ σ H Q,TD Γ X.K (cF g fr) σ H Q->tCB r (TDa Γ X.K fr) σ H Q:=by
 rintro σ H Q ⟨G₀,H₀,G,ρ,d,A,h,k⟩
 unfold cF at h
 obtain ⟨ds,hd,h⟩:=oBd h
 exact ⟨G₀,H₀,G,ρ,ds,A,hd,fun vs G1 H1 s1 r1=>hr s1.gh r1 h Q fun w G' H' s r=>k w G' H' (s1.trans s) r⟩
structure BltD (Γ:Cn) (X:Cx) (id:String) (g:List D->Option D):Prop where
 ex:∃ r,zdJ X (.builtin id) r/\zrZ Γ X.K g r
structure TyD (Γ:Cn) (X:Cx) (id:String) (g:List D->Option D):Prop where
 ex:∃ r,zdJ X (.type id) r/\zrZ Γ X.K g r
variable {x:Str} {p:Pos}
theorem zaB {id:String} {g:List D->Option D} (hc:BltD Γ X id g) (hg:Gl X x) (hm:X.mg x=none) (hv:bootBuiltins x=some (.builtin id)) (ha:DA Γ X (e::es) fr) (hn:x≠"__name__":=by decide) (hdb:(x==("__debug__":Str))=false:=by decide)
  (he:starEach (e::es) X.env=(false,eval e X.env)::starEach es X.env:=by rfl) (hpl:(backTo pos (starEach es X.env)).any (·.1)=false:=by rfl):DE Γ X (.Call (.Name x p) (e::es) [] pos) (cF g fr):=⟨by
 obtain ⟨r,h1,h2⟩:=hc.ex
 exact (ziB h1 hg hm hv ha.1 hn hdb he hpl).imp (TD.call h2)⟩
theorem zcU {id:String} {g:List D->Option D} (hc:TyD Γ X id g) (hg:Gl X x) (hm:X.mg x=none) (hv:bootBuiltins x=some (.type id)) (ha:DA Γ X (e::es) fr) (hn:x≠"__name__":=by decide) (hdb:(x==("__debug__":Str))=false:=by decide)
  (he:starEach (e::es) X.env=(false,eval e X.env)::starEach es X.env:=by rfl) (hpl:(backTo pos (starEach es X.env)).any (·.1)=false:=by rfl):DE Γ X (.Call (.Name x p) (e::es) [] pos) (cF g fr):=⟨by
 obtain ⟨r,h1,h2⟩:=hc.ex
 exact (zg1 h1 hg hm hv ha.1 hn hdb he hpl).imp (TD.call h2)⟩
theorem zhO {n:String} (hg:Gl X x) (hm:X.mg x=none) (hv:bootBuiltins x=some (.type n)) (hn:x≠"__name__":=by decide) (hd:(x==("__debug__":Str))=false:=by decide):DE Γ X (.Name x pos) (vC (.ty n)):=TD.const (fun _=>.ty n) (zqN hg hm hv rfl hn hd)
theorem Reps.one {K:PySem.W.Frag} {G:Hp} {vs:List V} {d:D} (r:Reps Γ K G vs [d]):∃ v,vs=[v]/\Rep Γ K G v d:=by
 cases r with
 | cons h t=>cases t;exact ⟨_,rfl,h⟩
theorem Reps.two {K:PySem.W.Frag} {G:Hp} {vs:List V} {d d':D} (r:Reps Γ K G vs [d,d']):∃ v u,vs=[v,u]/\Rep Γ K G v d/\Rep Γ K G u d':=by
 cases r with
 | cons h t=>cases t with
  | cons h2 t2=>cases t2;exact ⟨_,_,rfl,h,h2⟩
def zt1:List D->Option D
 | [.int i]=>some (.int (if i < 0 then -i else i))
 | _=>none
theorem ztU:BltD Γ X "abs" zt1:=⟨_,zpk,fun {G H vs ds z} gh r h Q k=>by
 unfold zt1 at h
 split at h <;> cases h
 obtain ⟨v,rfl,r1⟩:=r.one
 cases r1.int_inv
 exact ⟨_,rfl,k _ G H (.refl gh) (.int _)⟩⟩
def zr7:List D->Option D
 | [.int i,.int j]=>some (.int (if j > i then j else i))
 | _=>none
theorem ztS (hc:X.calm=true):BltD Γ X "max" zr7:=⟨_,znQ hc,fun {G H vs ds z} gh r h Q k=>by
 unfold zr7 at h
 split at h <;> cases h
 obtain ⟨v,u,rfl,r1,r2⟩:=r.two
 cases r1.int_inv;cases r2.int_inv
 exact ⟨_,_,rfl,k _ G H (.refl gh) (.int _)⟩⟩
def zm0:List D->Option D
 | [.int i,.int j]=>some (.int (if j < i then j else i))
 | _=>none
theorem znZ (hc:X.calm=true):BltD Γ X "min" zm0:=⟨_,znO hc,fun {G H vs ds z} gh r h Q k=>by
 unfold zm0 at h
 split at h <;> cases h
 obtain ⟨v,u,rfl,r1,r2⟩:=r.two
 cases r1.int_inv;cases r2.int_inv
 exact ⟨_,_,rfl,k _ G H (.refl gh) (.int _)⟩⟩
def zdK:List D->Option D
 | [.str x]=>if x.length<=sizeLine then some (.int (x.length:Nat)) else none
 | [.lst l]=>some (.int (l.length:Nat))
 | [.tup l]=>some (.int (l.length:Nat))
 | [.scr l]=>some (.int (l.length:Nat))
 | _=>none
theorem zdg:BltD Γ X "len" zdK:=⟨_,zpj,fun {G H vs ds z} gh r h Q k=>by
 unfold zdK at h
 split at h
 ·split at h
  ·cases h
   obtain ⟨v,rfl,r1⟩:=r.one
   cases r1.str_inv
   exact ⟨_,_,rfl,⟨by assumption,rfl⟩,k _ G H (.refl gh) (.int _)⟩
  ·cases h
 ·cases h
  obtain ⟨v,rfl,r1⟩:=r.one
  obtain ⟨a,vs,rfl,ha,rv⟩:=r1.lst_inv
  exact ⟨_,_,rfl,.inl ⟨vs,.inl (.inl (gh _ _ ha)),rfl⟩,k _ G H (.refl gh) (by rw [rv.length];exact .int _)⟩
 ·cases h
  obtain ⟨v,rfl,r1⟩:=r.one
  obtain ⟨a,vs,rfl,ha,rv⟩:=r1.tup_inv
  exact ⟨_,_,rfl,.inr ⟨vs,.inl (.inl (gh _ _ ha)),rfl⟩,k _ G H (.refl gh) (by rw [rv.length];exact .int _)⟩
 ·cases h
  obtain ⟨v,rfl,r1⟩:=r.one
  obtain ⟨a,rfl,ha⟩:=r1.scr_inv
  exact ⟨_,_,rfl,.inl ⟨_,gh.seq ha,rfl⟩,k _ G H (.refl gh) (by rw [qg];exact .int _)⟩
 ·cases h⟩
def tyD:D->Option String
 | .non=>some "NoneType"
 | .bl _=>some "bool"
 | .int _=>some "int"
 | .str _=>some "str"
 | .lst _=>some "list"
 | .tup _=>some "tuple"
 | .dk _=>some "dict"
 | .dt _=>some "dict"
 | _=>none
def zj5 (t c:String):Option Bool:=if (Value.type t==Value.type c)=true then some true else if PySem.W.kitMeta c=true then Option.map (fun x=>x.contains (Value.type c)) (PySem.fastBuiltinMro t) else none
def zgz:List D->Option D
 | [d,.ty c]=>(tyD d).bind fun t=>(zj5 t c).map D.bl
 | _=>none
theorem zp6 {K:PySem.W.Frag} {G H:Hp} {v:V} {d:D} {t:String} (gh:zbV G H) (r:Rep Γ K G v d) (h:tyD d=some t):TyOf K H v (.type t):=by
 unfold tyD at h
 split at h <;> cases h
 ·cases r.non_inv;exact .non
 ·cases r.bl_inv;exact .bl _
 ·cases r.int_inv;exact .int _
 ·cases r.str_inv;exact .str _
 ·obtain ⟨a,vs,rfl,ha,_⟩:=r.lst_inv;exact .lst (gh _ _ ha)
 ·obtain ⟨a,vs,rfl,ha,_⟩:=r.tup_inv;exact .tup (gh _ _ ha)
 ·cases r with
  | dk h _ _=>exact .dK (gh _ _ h)
 ·cases r with
  | dt h _ _=>exact .dT (gh _ _ h)
theorem zeW:BltD Γ X "isinstance" zgz:=by
 refine ⟨fun vs H Q=>∃ v t c b,vs=[v,.ty c]/\TyOf X.K H v (.type t)/\PySem.W.kitOne X.K (.type t) (.type c)=some b/\Q (.bl b) H,?_,?_⟩
 ·intro pins s σ H xs us Q I r h
  obtain ⟨v,t,c,b,rfl,ty,hk,q⟩:=h
  obtain ⟨u,w',rfl,r1,r2⟩:=zp4 r
  cases r2
  exact zni I r1 ty hk fun tk=>⟨.bl b,H,I.tok tk,rfl,q⟩
 ·intro G H vs ds z gh r h Q k
  unfold zgz at h
  split at h
  ·obtain ⟨t,ht,h⟩:=oBd h
   obtain ⟨b,hb,rfl⟩:=oMd h
   obtain ⟨v,u,rfl,r1,r2⟩:=r.two
   cases r2
   exact ⟨v,t,_,b,rfl,zp6 gh r1 ht,hb,k _ G H (.refl gh) (.bl _)⟩
  ·cases h
end
end L2
end
section
namespace L2
open PySem PySem.Spec PyProof.Rows
section
variable {Γ:Cn} {X:Cx} {a b c e:Expr} {es:List Expr} {fa fb fc f:FE} {fr:FA} {pos p2:Pos}
theorem Reps.atI {K:PySem.W.Frag} {G:Hp} {vs:List V} {ds:List D} {i:Int} {d:D} (r:Reps Γ K G vs ds) (h:L2.atI ds i=some d):∃ v,L2.atI vs i=some v/\Rep Γ K G v d:=by
 unfold L2.atI at h ⊢
 rw [r.length]
 cases e:ixN ds.length i with
 | none=>rw [e] at h;cases h
 | some j =>
  rw [e] at h
  obtain ⟨v,h1,h2⟩:=r.get (i:=j) (d:=d) h
  exact ⟨v,h1,h2⟩
theorem zrV {α β:Type} (g:α->β) (xs:List α) (i:Int):L2.atI (xs.map g) i=(L2.atI xs i).map g:=by
 unfold L2.atI
 rw [qg]
 cases ixN xs.length i with
 | none=>rfl
 | some j=>simp
def ixD:D->D->Option D
 | .lst l,.int i=>atI l i
 | .tup l,.int i=>atI l i
 | .scr l,.int i=>(atI l i).map D.int
 | .str x,.int i=>if x.length<=sizeLine then (atI x.cps.toList i).map fun c=>D.str ⟨#[c]⟩ else none
 | _,_=>none
theorem zrx {K:PySem.W.Frag}:zkL Γ K ixD (rIx K):=by
 intro G H v u x y z gh r1 r2 h Q k
 unfold ixD at h
 split at h
 ·obtain ⟨a,vs,rfl,ha,rv⟩:=r1.lst_inv
  cases r2.int_inv
  obtain ⟨w,hw,rw'⟩:=rv.atI h
  exact .inl ⟨a,vs,_,w,rfl,rfl,.inl (.inl (gh _ _ ha)),hw,k w G H (.refl gh) rw'⟩
 ·obtain ⟨a,vs,rfl,ha,rv⟩:=r1.tup_inv
  cases r2.int_inv
  obtain ⟨w,hw,rw'⟩:=rv.atI h
  exact .inr (.inl ⟨a,vs,_,w,rfl,rfl,.inl (.inl (gh _ _ ha)),hw,k w G H (.refl gh) rw'⟩)
 ·obtain ⟨a,rfl,ha⟩:=r1.scr_inv
  cases r2.int_inv
  obtain ⟨n,hn,rfl⟩:=oMd h
  exact .inl ⟨a,_,_,.int n,rfl,rfl,gh.seq ha,by rw [zrV,hn];rfl,k _ G H (.refl gh) (.int _)⟩
 ·split at h
  ·cases r1.str_inv
   cases r2.int_inv
   obtain ⟨n,hn,rfl⟩:=oMd h
   exact .inr (.inr ⟨_,_,n,rfl,rfl,by assumption,hn,k _ G H (.refl gh) (.str _)⟩)
  ·cases h
 ·cases h
theorem zaA (ha:DE Γ X a fa) (hb:DE Γ X b fb) (hs:zn7 b:=by intro _ _;rfl):DE Γ X (.Subscript a b pos) (b2 ixD fa fb):=⟨(zuq ztk ha.1 hb.1 hs).imp (TD.two zrx)⟩
def zhH {α:Type} (xs:List α) (lo hi:Option Int):List α:=(xs.drop (HT.sIx xs.length 0 lo)).take (HT.sIx xs.length xs.length hi - HT.sIx xs.length 0 lo)
theorem zpd {α β:Type} (g:α->β) (xs:List α) (lo hi:Option Int):zhH (xs.map g) lo hi=(zhH xs lo hi).map g:=by
 unfold zhH
 simp
theorem Reps.cut {K:PySem.W.Frag} {G:Hp} {vs:List V} {ds:List D} (r:Reps Γ K G vs ds) (lo hi:Option Int):Reps Γ K G (zpW vs lo hi) (zhH ds lo hi):=by
 unfold zpW zhH
 rw [r.length]
 exact (r.drop _).take _
def zsc (x:Str) (lo hi:Option Int):Str:=⟨(zhH x.cps.toList lo hi).toArray⟩
theorem zji (lo hi:Option Int) (n:Nat):Builtin.Str.strSliceIndices lo hi 1 n=(List.range (HT.sIx n n hi - HT.sIx n 0 lo)).map (HT.sIx n 0 lo+·):=by
 rw [← sliceRange_one]
 unfold Builtin.Str.strSliceIndices
 have h1:∀ (o:Option Int) (d:Nat),d<=n->(match o with | none=>(d:Int) | some i=>if (1:Int) > 0 then max 0 (min (if i < 0 then i+(n:Int) else i) n) else max (-1) (min (if i < 0 then i+(n:Int) else i) ((n:Int) - 1)))=((HT.sIx n d o:Nat):Int):=fun o d hd=>by
  cases o with
  | none=>simp [HT.sIx]
  | some i =>
   simp only [HT.sIx,show (1:Int) > 0 by decide,if_true]
   by_cases h:i < 0
   ·simp only [h,if_true];omega
   ·simp only [h,if_false];omega
 have e0:=h1 lo 0 (Nat.zero_le _)
 have e1:=h1 hi n (qw _)
 rw [← e0,← e1]
 rfl
theorem zk0 (x:Str) (lo hi:Option Int):Txt.slice x lo hi=zsc x lo hi:=by
 have key:(Builtin.Str.strSliceIndices lo hi 1 x.length).filterMap (x.cps[·]?)=zhH x.cps.toList lo hi:=by
  rw [zji,pick_run]
  unfold zhH
  rw [show x.cps.toList.length=x.length by simp [Str.length]]
 unfold Txt.slice zsc
 split
 ·rename_i h
  rw [← key]
  have hl:(Builtin.Str.strSliceIndices lo hi 1 x.length).length=x.length:=by simpa using h
  rw [zji] at hl ⊢
  rw [pick_run]
  rw [qg,List.length_range] at hl
  have hb:HT.sIx x.length x.length hi<=x.length:=by
   cases hi with
   | none=>simp [HT.sIx]
   | some i=>simp only [HT.sIx];split <;> omega
  have h0:HT.sIx x.length 0 lo=0\/x.length=0:=by omega
  have hx:x.cps.toList.length=x.length:=by simp [Str.length]
  have e:(x.cps.toList.drop (HT.sIx x.length 0 lo)).take (HT.sIx x.length x.length hi - HT.sIx x.length 0 lo)=x.cps.toList:=by
   rcases h0 with h0 | h0
   ·rw [h0,List.drop_zero]
    rw [h0] at hl
    exact List.take_of_length_le (by omega)
   ·have:x.cps.toList=[]:=List.length_eq_zero_iff.mp (by omega)
    rw [this];simp
  rw [e]
 ·rw [key]
def pN:zaZ->Option (Option Int):=fun _=>some none
def pS (f:FE):zaZ->Option (Option Int):=fun ρ=>(f ρ).bind fun d=>match d with
 | .int i=>some (some i)
 | _=>none
def TDp (Γ:Cn) (K:PySem.W.Frag) (f:zaZ->Option (Option Int)):TO:=fun σ H Q=>∃ G₀ H₀ G ρ o,At Γ K G₀ H₀ G H ρ σ/\f ρ=some o/\∀ G' H',Step G H G' H'->Q o H'
structure DP (Γ:Cn) (X:Cx) (e:Option Expr) (f:zaZ->Option (Option Int)):Prop where
 out:PO X e (TDp Γ X.K f)
theorem zcL:DP Γ X none pN:=⟨fun pins s σ H Q I ⟨G₀,H₀,G,ρ,o,A,h,k⟩=>by
 cases h
 exact zqB pins s σ H Q I (k G H (.refl A.gh))⟩
theorem zcx (h:DE Γ X e f):DP Γ X (some e) (pS f):=⟨fun pins s σ H Q I ⟨G₀,H₀,G,ρ,o,A,q,k⟩=>by
 unfold pS at q
 obtain ⟨d,hd,q⟩:=oBd q
 split at q <;> cases q
 exact zqA h.1 pins s σ H Q I ⟨G₀,H₀,G,ρ,_,A,hd,fun v G' H' s r=>⟨_,r.int_inv,k G' H' s⟩⟩⟩
theorem zss:SlR X (fun x lo hi H Q=>∃ z,x=.str z/\z.length<=sizeLine/\Q (.str (zsc z lo hi)) H):=by
 intro pins s σ H x v vl vu lo hi sl Q I rx hs pl pu h
 obtain ⟨z,rfl,hz,q⟩:=h
 obtain ⟨t,rfl⟩:=rx
 refine ⟨"str",_,PySem.F.slot_str_getitem.lookup,typeIs_str _ _ _,?_⟩
 obtain ⟨l,rfl,el⟩:∃ l:Option (Int×Tok),vl=partValue l/\l.map (·.1)=lo:=by
  cases pl with
  | none=>exact ⟨none,rfl,rfl⟩
  | int i t=>exact ⟨some (i,t),rfl,rfl⟩
 obtain ⟨u,rfl,eu⟩:∃ l:Option (Int×Tok),vu=partValue l/\l.map (·.1)=hi:=by
  cases pu with
  | none=>exact ⟨none,rfl,rfl⟩
  | int i t=>exact ⟨some (i,t),rfl,rfl⟩
 refine wpAny_getItem_str_slice (l:=l) (u:=u) (st:=none) hs rfl ?_
 have e:(if ((Option.map (fun x=>x.fst) (none:Option (Int×Tok))).getD 1==1 && (slicePicked z l u none).length==z.length)=true then z else { cps:=(List.filterMap (fun x=>z.cps[x]?) (slicePicked z l u none)).toArray })=zsc z lo hi:=by
  have e0:Txt.slice z (l.map (·.1)) (u.map (·.1))=zsc z lo hi:=by
   rw [el,eu]
   exact zk0 z lo hi
  exact e0
 refine post_val_or_str ⟨?_,fun t' k=>?_⟩
 ·rw [e,← zk0]
  exact qK (Txt.slice_le z _ _) hz
 ·rw [e]
  exact ⟨.str _,H,I.tok k,⟨_,rfl⟩,q⟩
def zh4 (lo hi:Option Int):D->Option D
 | .lst l=>some (.lst (zhH l lo hi))
 | .scr l=>some (.lst ((zhH l lo hi).map D.int))
 | .tup l=>if HT.sIx l.length 0 lo=0/\HT.sIx l.length l.length hi=l.length then none else some (.tup (zhH l lo hi))
 | .str x=>if x.length<=sizeLine then some (.str (zsc x lo hi)) else none
 | _=>none
def slF (f:FE) (fl fh:zaZ->Option (Option Int)):FE:=fun ρ=>(f ρ).bind fun d=>(fl ρ).bind fun l=>(fh ρ).bind fun h=>zh4 l h d
variable {fl fh:zaZ->Option (Option Int)} {lo hi:Option Expr}
theorem zcd (he:DE Γ X e f) (hl:DP Γ X lo fl) (hh:DP Γ X hi fh):DE Γ X (.Subscript e (.Slice lo hi none p2) pos) (slF f fl fh):=⟨(zoy (zqh.or (zsr.or zss)) he.1 hl.1 hh.1).imp fun σ H Q=>by
 rintro ⟨G₀,H₀,G,ρ,d,A,h,k⟩
 unfold slF at h
 obtain ⟨x,hx,h⟩:=oBd h
 obtain ⟨l,hl,h⟩:=oBd h
 obtain ⟨u,hu,h⟩:=oBd h
 refine ⟨G₀,H₀,G,ρ,x,A,hx,fun v G1 H1 s1 r1=>⟨G₀,H₀,G1,ρ,l,A.step s1,hl,fun G2 H2 s2=>⟨G₀,H₀,G2,ρ,u,(A.step s1).step s2,hu,fun G3 H3 s3=>?_⟩⟩⟩
 have s:=(s1.trans s2).trans s3
 have r:=r1.mono (s2.gg.trans s3.gg)
 have gh:=s3.gh
 unfold zh4 at h
 split at h
 ·cases h
  obtain ⟨a,vs,rfl,ha,rv⟩:=r.lst_inv
  exact .inl ⟨a,vs,rfl,.inl (.inl (gh _ _ ha)),zdW gh (rv.cut l u) fun w G4 H4 s4 r4=>k w G4 H4 (s.trans s4) r4⟩
 ·cases h
  obtain ⟨a,rfl,ha⟩:=r.scr_inv
  refine .inl ⟨a,_,rfl,gh.seq ha,zdW gh ?_ fun w G4 H4 s4 r4=>k w G4 H4 (s.trans s4) r4⟩
  show Reps Γ X.K G3 (zhH _ l u) _
  rw [zpd]
  exact Reps.ints _
 ·split at h
  ·cases h
  ·rename_i hw
   cases h
   obtain ⟨a,vs,rfl,ha,rv⟩:=r.tup_inv
   exact .inr (.inl ⟨a,vs,rfl,.inl (.inl (gh _ _ ha)),by rw [rv.length];exact hw,zkl gh (rv.cut l u) fun w G4 H4 s4 r4=>k w G4 H4 (s.trans s4) r4⟩)
 ·split at h
  ·cases h
   cases r.str_inv
   exact .inr (.inr ⟨_,rfl,by assumption,k _ _ _ s (.str _)⟩)
  ·cases h
 ·cases h⟩
structure MtD (Γ:Cn) (X:Cx) (T id:String) (g:D->List D->Option D):Prop where
 ex:∃ r,MtR X id r/\∀ {G H v x vs ds z},zbV G H->Rep Γ X.K G v x->Reps Γ X.K G vs ds->g x ds=some z->∀ Q:VK,(∀ w G' H',Step G H G' H'->Rep Γ X.K G' w z->Q w H')->r v vs H Q
 ty:∀ {G H v x ds z},zbV G H->Rep Γ X.K G v x->g x ds=some z->tyV X.K T v H
variable {name:Str} {apos cpos:Pos} {o:Expr} {fo:FE}
def zso:List D->Option (List Str)
 | []=>some []
 | .str x::r=>(zso r).map (x::·)
 | _::_=>none
def zvM:D->List D->Option D
 | .str sep,[.lst l]=>(zso l).bind fun ys=>if (ys.map (·.length)).sum+ys.length*sep.length<=16777216 then some (.str (Txt.join sep ys)) else none
 | _,_=>none
def zrR:List D->Option (List Bool)
 | []=>some []
 | .bl x::r=>(zrR r).map (x::·)
 | _::_=>none
theorem zkI {K:PySem.W.Frag} {G:Hp}:∀ {vs:List V} {ds:List D} {ys:List Bool},Reps Γ K G vs ds->zrR ds=some ys->vs=ys.map V.bl
 | _,[],ys,r,h=>by cases r;cases h;rfl
 | _,d::ds,ys,.cons h1 h2,h=>by
  cases d with
  | bl x =>
   obtain ⟨zs,hz,rfl⟩:=oMd (show (zrR ds).map (x::·)=some ys from h)
   rw [h1.bl_inv,zkI h2 hz];rfl
  | _=>cases h
def zkK:List D->Option D
 | [.lst l]=>(zrR l).map fun bs=>D.bl (bs.all id)
 | _=>none
def zt0:List D->Option D
 | [.lst l]=>(zrR l).map fun bs=>D.bl (bs.any id)
 | _=>none
theorem zj7:∀ {bs:List Bool} {us:List Value},zbS (bs.map V.bl) us->us=bs.map Value.bool
 | [],_,r=>by rw [qM] at r;cases r;rfl
 | y::ys,_,r=>by
  rw [qp] at r
  cases r with
  | cons r1 r2=>cases r1;rw [zj7 r2];rfl
theorem zn5 (bs:List Bool):(List.range bs.length).all (fun i=>bs.getD i false)=bs.all id:=by
 rw [Bool.eq_iff_iff,List.all_eq_true,List.all_eq_true]
 constructor
 ·intro h x hx
  obtain ⟨i,hi,e⟩:=List.mem_iff_getElem.mp hx
  have:=h i (List.mem_range.mpr hi)
  simp [List.getD,hi] at this
  rw [← e];exact this
 ·intro h i hi
  have hi':=List.mem_range.mp hi
  have:=h (bs[i]) (List.getElem_mem hi')
  simp [List.getD,hi']
  exact this
theorem zn4 (bs:List Bool):(List.range bs.length).any (fun i=>bs.getD i false)=bs.any id:=by
 rw [Bool.eq_iff_iff,List.any_eq_true,List.any_eq_true]
 constructor
 ·rintro ⟨i,hi,h⟩
  have hi':=List.mem_range.mp hi
  refine ⟨bs[i],List.getElem_mem hi',?_⟩
  simpa [List.getD,hi'] using h
 ·rintro ⟨x,hx,h⟩
  obtain ⟨i,hi,e⟩:=List.mem_iff_getElem.mp hx
  refine ⟨i,List.mem_range.mpr hi,?_⟩
  simp [List.getD,hi,e]
  exact h
theorem zkV {prog:Program} {w:World} {A:Around} {bs:List Bool}:TruthOf prog w A (fun i v=>(bs.map Value.bool).toArray[i]?=some v) (fun i=>bs.getD i false):=fun i v s Q E hP hQ=>by
 have hP':(bs.map Value.bool)[i]?=some v:=by simpa using hP
 rw [qm] at hP'
 obtain ⟨b,hb,rfl⟩:=oMd hP'
 have:bs.getD i false=b:=by simp [List.getD,hb]
 have hQ':Q (bs.getD i false) s:=hQ
 rw [this] at hQ'
 exact wpAny_truthy_bool hQ'
theorem zeX (hc:X.calm=true):BltD Γ X "all" zkK:=by
 refine ⟨fun vs H Q=>∃ (a:Addr) (bs:List Bool),vs=[.ref a]/\H a=some (.lst (bs.map V.bl))/\Q (.bl (bs.all id)) H,?_,?_⟩
 ·intro pins s σ H xs us Q I r h
  obtain ⟨a,bs,rfl,ha,q⟩:=h
  obtain ⟨u,rfl,ru⟩:=zeb r
  cases ru
  obtain ⟨its,rv,pl,_⟩:=I.list (.inl (.inl ha))
  have e:=zj7 rv
  subst e
  refine call_all_walk (wpAny_pyIter_list pl.isList ?_)
  have ne:a≠s.heap.objs.size:=by obtain ⟨o,_,h1,_⟩:=pl;exact qB (qv h1)
  refine ⟨s.heap.objs.size,_,_,_,_,_,fun i=>bs.getD i false,rfl,Walks.list (A:=X.A.in1) (show X.A.in1.handled=none from I.ok.hd hc) s.heap.objs.size a ne (bs.map Value.bool).toArray,⟨⟨_,qF _ rfl,rfl,rfl⟩,pl.isList.at fun o q=>qu _ q⟩,zkV,fun h' tk hk=>?_⟩
  have e2:(bs.map Value.bool).toArray.size=bs.length:=by simp
  rw [e2,zn5]
  refine ⟨.bl _,H,I.kept fun b o z=>hk b o ?_ (qu _ z),rfl,q⟩
  intro z'
  have:b=s.heap.objs.size:=by simpa using z'
  exact absurd (qv z) (by rw [this];exact Nat.lt_irrefl _)
 ·intro G H vs ds z gh r h Q k
  unfold zkK at h
  split at h
  ·obtain ⟨bs,hb,rfl⟩:=oMd h
   obtain ⟨v,rfl,r1⟩:=r.one
   obtain ⟨a,ws,rfl,ha,rw'⟩:=r1.lst_inv
   refine ⟨a,bs,rfl,?_,k _ G H (.refl gh) (.bl _)⟩
   rw [← zkI rw' hb]
   exact gh _ _ ha
  ·cases h
theorem ztT (hc:X.calm=true):BltD Γ X "any" zt0:=by
 refine ⟨fun vs H Q=>∃ (a:Addr) (bs:List Bool),vs=[.ref a]/\H a=some (.lst (bs.map V.bl))/\Q (.bl (bs.any id)) H,?_,?_⟩
 ·intro pins s σ H xs us Q I r h
  obtain ⟨a,bs,rfl,ha,q⟩:=h
  obtain ⟨u,rfl,ru⟩:=zeb r
  cases ru
  obtain ⟨its,rv,pl,_⟩:=I.list (.inl (.inl ha))
  have e:=zj7 rv
  subst e
  refine call_any_walk (wpAny_pyIter_list pl.isList ?_)
  have ne:a≠s.heap.objs.size:=by obtain ⟨o,_,h1,_⟩:=pl;exact qB (qv h1)
  refine ⟨s.heap.objs.size,_,_,_,_,_,fun i=>bs.getD i false,rfl,Walks.list (A:=X.A.in1) (show X.A.in1.handled=none from I.ok.hd hc) s.heap.objs.size a ne (bs.map Value.bool).toArray,⟨⟨_,qF _ rfl,rfl,rfl⟩,pl.isList.at fun o q=>qu _ q⟩,zkV,fun h' tk hk=>?_⟩
  have e2:(bs.map Value.bool).toArray.size=bs.length:=by simp
  rw [e2,zn4]
  refine ⟨.bl _,H,I.kept fun b o z=>hk b o ?_ (qu _ z),rfl,q⟩
  intro z'
  have:b=s.heap.objs.size:=by simpa using z'
  exact absurd (qv z) (by rw [this];exact Nat.lt_irrefl _)
 ·intro G H vs ds z gh r h Q k
  unfold zt0 at h
  split at h
  ·obtain ⟨bs,hb,rfl⟩:=oMd h
   obtain ⟨v,rfl,r1⟩:=r.one
   obtain ⟨a,ws,rfl,ha,rw'⟩:=r1.lst_inv
   refine ⟨a,bs,rfl,?_,k _ G H (.refl gh) (.bl _)⟩
   rw [← zkI rw' hb]
   exact gh _ _ ha
  ·cases h
end
end L2
end
section
namespace L2
open PySem PySem.Spec PyProof.Rows
structure Yd (Γ:Cn) (K:PySem.W.Frag) (J:It) (G:Hp) (ds:List D):Prop where
 go:∀ (i:Nat) d G2 H2,ds[i]?=some d->zbV G G2->zbV G2 H2->J.go i H2/\∀ x H3,J.yld i H2 x H3->∃ G3,Step G2 H2 G3 H3/\Rep Γ K G3 x d
 stop:∀ G2 H2,zbV G G2->zbV G2 H2->J.stop ds.length H2
def TDi (Γ:Cn) (K:PySem.W.Frag) (f:FA):TI:=fun σ H R=>∃ G₀ H₀ G ρ ds,At Γ K G₀ H₀ G H ρ σ/\f ρ=some ds/\∀ J G' H',Step G H G' H'->Yd Γ K J G' ds->R J H'
structure DI (Γ:Cn) (X:Cx) (tg e:Expr) (f:FA):Prop where
 out:PI X tg e (TDi Γ X.K f)
theorem PI.imp {X:Cx} {tg e:Expr} {t t':TI} (h:PI X tg e t) (i:∀ σ H R,t' σ H R->t σ H R):PI X tg e t':=fun pins s σ H R I q=>h pins s σ H R I (i _ _ _ q)
section
variable {Γ:Cn} {X:Cx} {a b c e tg iter:Expr} {es:List Expr} {fa fb fc f:FE} {fr fi:FA} {pos p2 p:Pos}
theorem zse {K:PySem.W.Frag} {G:Hp} {a:Addr} {vs:List V} {ds:List D} (h:G a=some (.tup vs)) (r:Reps Γ K G vs ds):Yd Γ K (Itt K a) G ds:=by
 refine ⟨fun i d G2 H2 hd g1 g2=>?_,fun G2 H2 g1 g2=>⟨vs,.inl (.inl (g2 _ _ (g1 _ _ h))),by rw [r.length];exact qw _⟩⟩
 obtain ⟨v,hv,rv⟩:=r.get hd
 refine ⟨⟨vs,v,.inl (.inl (g2 _ _ (g1 _ _ h))),hv⟩,fun x H3 ⟨e1,e2⟩=>?_⟩
 subst e1
 have:=e2 vs (.inl (.inl (g2 _ _ (g1 _ _ h))))
 rw [hv] at this
 cases this
 exact ⟨G2,.refl g2,rv.mono g1⟩
theorem zmb {K:PySem.W.Frag} {G:Hp} {a:Addr} {vs:List V} {ds:List D} (h:SqL K G a vs) (r:Reps Γ K G vs ds):Yd Γ K (Ite K a) G (ds.mapIdx fun i d=>D.tup [.int i,d]):=by
 refine ⟨fun i d G2 H2 hd g1 g2=>?_,fun G2 H2 g1 g2=>⟨vs,g2.seq (g1.seq h),by rw [List.length_mapIdx,r.length];exact qw _⟩⟩
 rw [List.getElem?_mapIdx] at hd
 obtain ⟨d',hd',rfl⟩:=oMd hd
 obtain ⟨v,hv,rv⟩:=r.get hd'
 refine ⟨⟨vs,v,g2.seq (g1.seq h),hv⟩,fun x H3 ⟨T,y,e0,hT,e1,e2⟩=>?_⟩
 subst e0
 have:=e2 vs (g2.seq (g1.seq h))
 rw [hv] at this
 cases this
 subst e1
 have s:=Step.new (o:=.tup [.int i,v]) g2 hT
 exact ⟨_,s,.tup zav (.cons (.int _) (.cons ((rv.mono g1).mono s.gg) .nil))⟩
def zlh:D->Option (List D)
 | .lst l=>some l
 | .tup l=>some l
 | .scr l=>some (l.map D.int)
 | _=>none
def itF (f:FE):FA:=fun ρ=>(f ρ).bind zlh
theorem zsJ {l:Expr} {tl:TE} (hl:PE X l tl):PI X tg l (fun σ H R=>tl σ H fun x H1=>(∃ a,x=.ref a/\(∃ xs,SqL X.K H1 a xs)/\R (Itl X.K a) H1)\/(∃ a,x=.ref a/\(∃ xs,SqT X.K H1 a xs)/\R (Itt X.K a) H1)):=by
 intro pins s σ H R I h
 refine thn (hl pins s σ H _ I h) fun v s1 ⟨x,H1,I1,r1,q1⟩=>?_
 rcases q1 with ⟨a,e,⟨xs,hq⟩,q⟩ | ⟨a,e,⟨xs,hq⟩,q⟩
 ·subst e
  cases r1
  obtain ⟨its,rv,p,hz⟩:=I1.list hq
  refine wpAny_pyIter_list p.isList ?_
  refine ⟨s1.heap.objs.size,[s1.heap.objs.size],_,_,H1,rfl,I1.kept (t':=s1.toks) fun b o e=>qu _ e,zmd a _,⟨_,qF _ rfl,rfl,rfl⟩,fun b hb=>?_,q⟩
  have e:b=s1.heap.objs.size:=by simpa using hb
  subst e
  exact I1.fpOk (qw _) (I1.hok.fresh (qw _))
 ·subst e
  cases r1
  obtain ⟨its,rv,p,hz⟩:=I1.tuple hq
  refine wpAny_pyIter_tuple (show s1.heap.IsTuple a its.toArray from p) ?_
  refine ⟨s1.heap.objs.size,[s1.heap.objs.size],_,_,H1,rfl,I1.kept (t':=s1.toks) fun b o e=>qu _ e,zlz a _,⟨_,qF _ rfl,rfl,rfl⟩,fun b hb=>?_,q⟩
  have e:b=s1.heap.objs.size:=by simpa using hb
  subst e
  exact I1.fpOk (qw _) (I1.hok.fresh (qw _))
theorem za2 (h:DE Γ X iter f):DI Γ X tg iter (itF f):=⟨(zsJ h.1).imp fun σ H R=>by
 rintro ⟨G₀,H₀,G,ρ,ds,A,h,k⟩
 unfold itF at h
 obtain ⟨d,hd,h⟩:=oBd h
 refine ⟨G₀,H₀,G,ρ,d,A,hd,fun v G' H' s r=>?_⟩
 unfold zlh at h
 split at h
 ·cases h
  obtain ⟨a,vs,rfl,ha,rv⟩:=r.lst_inv
  refine .inl ⟨a,rfl,⟨vs,.inl (.inl (s.gh _ _ ha))⟩,k _ G' H' s ?_⟩
  refine ⟨fun i d G2 H2 hd g1 g2=>?_,fun G2 H2 g1 g2=>⟨vs,.inl (.inl (g2 _ _ (g1 _ _ ha))),by rw [rv.length];exact qw _⟩⟩
  obtain ⟨v,hv,rv'⟩:=rv.get hd
  refine ⟨⟨vs,v,.inl (.inl (g2 _ _ (g1 _ _ ha))),hv⟩,fun x H3 ⟨e1,e2⟩=>?_⟩
  subst e1
  have:=e2 vs (.inl (.inl (g2 _ _ (g1 _ _ ha))))
  rw [hv] at this
  cases this
  exact ⟨G2,.refl g2,rv'.mono g1⟩
 ·cases h
  obtain ⟨a,vs,rfl,ha,rv⟩:=r.tup_inv
  exact .inr ⟨a,rfl,⟨vs,.inl (.inl (s.gh _ _ ha))⟩,k _ G' H' s (zse ha rv)⟩
 ·rename_i l
  cases h
  obtain ⟨a,rfl,ha⟩:=r.scr_inv
  refine .inl ⟨a,rfl,⟨_,s.gh.seq ha⟩,k _ G' H' s ?_⟩
  refine ⟨fun i d G2 H2 hd g1 g2=>?_,fun G2 H2 g1 g2=>⟨_,g2.seq (g1.seq ha),by simp⟩⟩
  rw [qm] at hd
  obtain ⟨n,hn,rfl⟩:=oMd hd
  have hv:(List.map V.int l)[i]?=some (V.int n):=by rw [qm,hn];rfl
  refine ⟨⟨_,_,g2.seq (g1.seq ha),hv⟩,fun x H3 ⟨e1,e2⟩=>?_⟩
  subst e1
  have:=e2 _ (g2.seq (g1.seq ha))
  rw [hv] at this
  cases this
  exact ⟨G2,.refl g2,.int _⟩
 ·cases h⟩
def zmq:D->Option (List D)
 | .str x=>some (x.cps.toList.map fun c=>D.str ⟨#[c]⟩)
 | _=>none
def itS (f:FE):FA:=fun ρ=>(f ρ).bind zmq
theorem ztz {n:Str} {q:Pos} (h:DE Γ X iter f):DI Γ X (.Name n q) iter (itS f):=⟨(zsI h.1).imp fun σ H R=>by
 rintro ⟨G₀,H₀,G,ρ,ds,A,h,k⟩
 unfold itS at h
 obtain ⟨d,hd,h⟩:=oBd h
 refine ⟨G₀,H₀,G,ρ,d,A,hd,fun v G' H' s r=>?_⟩
 unfold zmq at h
 split at h <;> cases h
 cases r.str_inv
 rename_i x
 refine ⟨x,rfl,k _ G' H' s ⟨fun i d G2 H2 hd g1 g2=>?_,fun G2 H2 g1 g2=>?_⟩⟩
 ·rw [qm] at hd
  obtain ⟨c,hc,rfl⟩:=oMd hd
  have hc':x.cps[i]?=some c:=by simpa using hc
  refine ⟨(Array.getElem?_eq_some_iff.mp hc').1,fun y H3 ⟨e1,c2,h2,e2⟩=>?_⟩
  subst e1
  subst e2
  rw [hc'] at h2
  cases h2
  exact ⟨G2,.refl g2,.str _⟩
 ·show _=x.cps.size
  simp⟩
def ztq:D->Option (List D)
 | .lst l=>some (l.mapIdx fun i d=>D.tup [.int i,d])
 | .scr l=>some ((l.map D.int).mapIdx fun i d=>D.tup [.int i,d])
 | _=>none
def itE (f:FE):FA:=fun ρ=>(f ρ).bind ztq
theorem zd0 {elts:List Expr} {k1:Nat} {tpos:Pos} (hg:Gl X "enumerate") (hm:X.mg "enumerate"=none) (h:DE Γ X a f) (hs:starEach [a] X.env=[(false,eval a X.env)]:=by rfl) (hs0:starEach ([a]:List Expr) X.env=(false,eval a X.env)::starEach [] X.env:=by rfl) :
  DI Γ X (.Tuple elts k1 tpos) (.Call (.Name "enumerate" p) [a] [] pos) (itE f):=⟨(zqE hg hm (zdV h.1 zfA hs0) hs).imp fun σ H R=>by
 rintro ⟨G₀,H₀,G,ρ,ds,A,h,k⟩
 unfold itE at h
 obtain ⟨d,hd,h⟩:=oBd h
 refine ⟨G₀,H₀,G,ρ,d,A,hd,fun v G' H' s r=>?_⟩
 unfold ztq at h
 split at h
 ·cases h
  obtain ⟨a,vs,rfl,ha,rv⟩:=r.lst_inv
  exact ⟨a,rfl,⟨vs,.inl (.inl (s.gh _ _ ha))⟩,k _ G' H' s (zmb (.inl (.inl ha)) rv)⟩
 ·cases h
  obtain ⟨a,rfl,ha⟩:=r.scr_inv
  exact ⟨a,rfl,⟨_,s.gh.seq ha⟩,k _ G' H' s (zmb ha (Reps.ints _))⟩
 ·cases h⟩
theorem zkN {K:PySem.W.Frag} {G:Hp} {lo:Int} {n:Nat}:Yd Γ K (Itr lo n) G ((List.range n).map fun i:Nat=>D.int (lo+i)):=by
 refine ⟨fun i d G2 H2 hd g1 g2=>?_,fun G2 H2 g1 g2=>?_⟩
 ·rw [qm] at hd
  obtain ⟨j,hj,rfl⟩:=oMd hd
  have hi:i < n:=by
   have:=(List.getElem?_eq_some_iff.mp hj).1
   simpa using this
  have e:j=i:=by simpa [hi] using hj.symm
  subst e
  refine ⟨hi,fun x H3 ⟨e1,e2⟩=>?_⟩
  subst e1
  subst e2
  exact ⟨G2,.refl g2,.int _⟩
 ·show n<=_
  simp
def zk1:List D->Option (List D)
 | [.int j]=>if -(2 ^ 62)<=j/\j < 2 ^ 62 then some ((List.range j.toNat).map fun i:Nat=>D.int (0+i)) else none
 | _=>none
def zqo:List D->Option (List D)
 | [.int i,.int j]=>if -(2 ^ 62)<=i/\i < 2 ^ 62 /\ -(2 ^ 62)<=j/\j < 2 ^ 62 then some ((List.range (j - i).toNat).map fun k:Nat=>D.int (i+k)) else none
 | _=>none
def itR (g:List D->Option (List D)) (fr:FA):FA:=fun ρ=>(fr ρ).bind g
theorem zev (hg:Gl X "range") (hm:X.mg "range"=none) (h:DA Γ X [a] fr) (hs:starEach [a] X.env=[(false,eval a X.env)]:=by rfl):DI Γ X tg (.Call (.Name "range" p) [a] [] pos) (itR zk1 fr):=⟨(zmF hg hm h.1 hs).imp fun σ H R=>by
 rintro ⟨G₀,H₀,G,ρ,ds,A,h,k⟩
 unfold itR at h
 obtain ⟨d,hd,h⟩:=oBd h
 refine ⟨G₀,H₀,G,ρ,d,A,hd,fun v G' H' s r=>?_⟩
 unfold zk1 at h
 split at h
 ·split at h
  ·rename_i hz
   cases h
   obtain ⟨v,rfl,r1⟩:=r.one
   cases r1.int_inv
   exact ⟨_,rfl,hz.1,hz.2,k _ G' H' s zkN⟩
  ·cases h
 ·cases h⟩
theorem znz (hg:Gl X "range") (hm:X.mg "range"=none) (h:DA Γ X [a,b] fr) (hs:starEach [a,b] X.env=[(false,eval a X.env),(false,eval b X.env)]:=by rfl) (hs2:starEach [b] X.env=[(false,eval b X.env)]:=by rfl):DI Γ X tg (.Call (.Name "range" p) [a,b] [] pos) (itR zqo fr):=⟨(zmE hg hm h.1 hs hs2).imp fun σ H R=>by
 rintro ⟨G₀,H₀,G,ρ,ds,A,h,k⟩
 unfold itR at h
 obtain ⟨d,hd,h⟩:=oBd h
 refine ⟨G₀,H₀,G,ρ,d,A,hd,fun v G' H' s r=>?_⟩
 unfold zqo at h
 split at h
 ·split at h
  ·rename_i hz
   cases h
   obtain ⟨v,u,rfl,r1,r2⟩:=r.two
   cases r1.int_inv
   cases r2.int_inv
   exact ⟨_,_,rfl,hz,k _ G' H' s zkN⟩
  ·cases h
 ·cases h⟩
abbrev FG:=D->zaZ->Option zaZ
abbrev FGs:=List D->zaZ->Option zaZ
def TDg (Γ:Cn) (K:PySem.W.Frag) (g:FG):TG:=fun v σ H Q=>∃ G₀ H₀ G ρ d ρ',At Γ K G₀ H₀ G H ρ σ/\Rep Γ K G v d/\g d ρ=some ρ'/\∀ σ',At Γ K G₀ H₀ G H ρ' σ'->Q σ' H
def zvY (Γ:Cn) (K:PySem.W.Frag) (g:FGs):TGs:=fun vs σ H Q=>∃ G₀ H₀ G ρ ds ρ',At Γ K G₀ H₀ G H ρ σ/\Reps Γ K G vs ds/\g ds ρ=some ρ'/\∀ σ',At Γ K G₀ H₀ G H ρ' σ'->Q σ' H
structure DG (Γ:Cn) (X:Cx) (tg:Expr) (g:FG):Prop where
 pg:PG X tg (TDg Γ X.K g)
 no:∀ d ρ ρ',g d ρ=some ρ'->zgb ρ->zgb ρ'
structure DGs (Γ:Cn) (X:Cx) (ts:List Expr) (g:FGs):Prop where
 pg:PGs X ts (zvY Γ X.K g)
 no:∀ d ρ ρ',g d ρ=some ρ'->zgb ρ->zgb ρ'
theorem PG.imp {t t':TG} (h:PG X tg t) (i:∀ v σ H Q,t' v σ H Q->t v σ H Q):PG X tg t':=fun pins s σ H v u Q I r q=>h pins s σ H v u Q I r (i _ _ _ _ q)
theorem PGs.imp {ts:List Expr} {t t':TGs} (h:PGs X ts t) (i:∀ v σ H Q,t' v σ H Q->t v σ H Q):PGs X ts t':=fun pins s σ H v u Q I r q=>h pins s σ H v u Q I r (i _ _ _ _ q)
def zaJ (i:Nat):FG:=fun d ρ=>some (ρ.set i (some (.sh d)))
theorem zmP {ρ:zaZ} {i:Nat} {d:D} (h:zgb ρ):zgb (ρ.set i (some (.sh d))):=fun j ds e=>by
 by_cases hj:j=i
 ·subst hj
  rw [List.getElem?_set,qU rfl] at e
  split at e <;> cases e
  exact ⟨_,rfl⟩
 ·rw [List.getElem?_set_ne (Ne.symm hj)] at e
  exact h j ds e
theorem zao (i:Nat) {x:Str} (hN:X.N.Nodup) (hi:X.N[i]?=some x:=by rfl) (hx:Loc X.env.scope x:=by first | exact Or.inl rfl | exact Or.inr rfl) (hf:X.fn x=true\/X.env.scope.names.lookup x=some .local:=by first | exact .inl rfl | exact .inr rfl | assumption):DG Γ X (.Name x pos) (zaJ i):=by
 refine ⟨(zqG hN hi hx hf).imp fun v σ H Q=>?_,fun d ρ ρ' e h=>?_⟩
 ·rintro ⟨G₀,H₀,G,ρ,d,ρ',A,r,h,k⟩
  cases h
  exact k _ (A.setSh r)
 ·cases e
  exact zmP h
def zbB:FGs:=fun ds ρ=>match ds with
 | []=>some ρ
 | _=>none
def zau (g:FG) (gs:FGs):FGs:=fun ds ρ=>match ds with
 | d::r=>(g d ρ).bind fun ρ'=>gs r ρ'
 | _=>none
theorem zcb:DGs Γ X [] zbB:=by
 refine ⟨zqF.imp fun vs σ H Q=>?_,fun d ρ ρ' e h=>?_⟩
 ·rintro ⟨G₀,H₀,G,ρ,ds,ρ',A,r,h,k⟩
  unfold zbB at h
  split at h <;> cases h
  cases r
  exact ⟨rfl,k σ A⟩
 ·unfold zbB at e
  split at e <;> cases e
  exact h
theorem zaE {ts:List Expr} {g:FG} {gs:FGs} (h1:DG Γ X e g) (h2:DGs Γ X ts gs) (hs:(assignEach (e::ts) X.env).map (·.2)=assign e X.env::(assignEach ts X.env).map (·.2):=by rfl):DGs Γ X (e::ts) (zau g gs):=by
 refine ⟨(zox h1.pg h2.pg hs).imp fun vs σ H Q=>?_,fun ds ρ ρ' e h=>?_⟩
 ·rintro ⟨G₀,H₀,G,ρ,ds,ρ',A,r,h,k⟩
  unfold zau at h
  split at h
  ·obtain ⟨ρ1,h1,h⟩:=oBd h
   cases r with
   | cons r1 r2=>exact ⟨_,_,rfl,G₀,H₀,G,ρ,_,ρ1,A,r1,h1,fun σ1 A1=>⟨G₀,H₀,G,ρ1,_,ρ',A1,r2,h,k⟩⟩
  ·cases h
 ·unfold zau at e
  split at e
  ·obtain ⟨ρ1,e1,e⟩:=oBd e
   exact h2.no _ _ _ e (h1.no _ _ _ e1 h)
  ·cases e
def zbC (n:Nat) (gs:FGs):FG:=fun d ρ=>match d with
 | .tup ds=>if ds.length=n then gs ds ρ else none
 | _=>none
theorem zcG {ts:List Expr} {k:Nat} {gs:FGs} {n:Nat} (hc:X.calm=true) (h:DGs Γ X ts gs) (hn:(assignEach ts X.env).length=n:=by rfl) (hst:(assignEach ts X.env).findIdx? (·.1)=none:=by rfl):DG Γ X (.Tuple ts k pos) (zbC n gs):=by
 refine ⟨(zsK hc h.pg hn hst).imp fun v σ H Q=>?_,fun ds ρ ρ' e q=>?_⟩
 ·rintro ⟨G₀,H₀,G,ρ,d,ρ',A,r,h,k⟩
  unfold zbC at h
  split at h
  ·split at h
   ·rename_i hl
    obtain ⟨a,vs,rfl,ha,rv⟩:=r.tup_inv
    exact ⟨a,vs,rfl,.inl (.inl (A.gh _ _ ha)),by rw [rv.length];exact hl,G₀,H₀,G,ρ,_,ρ',A,rv,h,k⟩
   ·cases h
  ·cases h
 ·unfold zbC at e
  split at e
  ·split at e
   ·exact h.no _ _ _ e q
   ·cases e
  ·cases e
def zfF (g:FG) (ft:FT) (fe:FE):List D->zaZ->Option (List D)
 | [],_=>some []
 | x::xs,ρ=>(g x ρ).bind fun ρ1=>(ft ρ1).bind fun b=>if b=true then (fe ρ1).bind fun d=>(zfF g ft fe xs ρ1).map (d::·) else zfF g ft fe xs ρ1
def zet (fv:List (Option Nat)) (ρ:zaZ):zaZ:=fv.map fun o=>o.bind fun j=>match ρ[j]? with
 | some (some (.sh d))=>some (.sh d)
 | _=>none
def zaP (fi:FA) (g:FG) (ft:FT) (fe:FE) (fv:List (Option Nat)):FA:=fun ρ=>(fi ρ).bind fun xs=>if xs.length<=sizeLine then zfF g ft fe xs (zet fv ρ) else none
structure DTs (Γ:Cn) (X:Cx) (es:List Expr) (f:FT):Prop where
 out:PTs X es (TDt Γ X.K f)
theorem PTs.imp {t t':TT} (h:PTs X es t) (i:∀ σ H Q,t' σ H Q->t σ H Q):PTs X es t':=fun pins s σ H Q I q=>h pins s σ H Q I (i _ _ _ q)
def tT:FT:=fun _=>some true
theorem zaQ:DTs Γ X [] tT:=⟨zqv.imp fun σ H Q=>by
 rintro ⟨G₀,H₀,G,ρ,b,A,h,k⟩
 cases h
 exact k G H (.refl A.gh)⟩
theorem zkt {ft:FT} (h:DT Γ X c ft):DTs Γ X [c] ft:=⟨zqu h.1⟩
variable {scope:Scope} {N':List Str} {fv:List (Option Nat)} {g:FG} {ft:FT} {fe:FE} {ifs:List Expr} {elt:Expr}
structure DB (Γ:Cn) (X:Cx) (N':List Str) (scope:Scope) (tg:Expr) (ifs:List Expr) (elt:Expr) (g:FG) (ft:FT) (fe:FE):Prop where
 out:∀ (cl:List (Str×Addr)) (C:Addr) (s₀:Shared) (H₀:Hp) (fp:List Addr),DG Γ (zdl X N' scope cl C s₀ H₀ fp) tg g/\DTs Γ (zdl X N' scope cl C s₀ H₀ fp) ifs ft/\DE Γ (zdl X N' scope cl C s₀ H₀ fp) elt fe
theorem DB.pb (h:DB Γ X N' scope tg ifs elt g ft fe):PB X N' scope tg ifs elt (TDg Γ X.K g) (TDt Γ X.K ft) (TD Γ X.K fe):=fun cl C s₀ H₀ fp=>⟨(h.1 cl C s₀ H₀ fp).1.pg,(h.1 cl C s₀ H₀ fp).2.1.1,(h.1 cl C s₀ H₀ fp).2.2.1⟩
theorem zto {K:PySem.W.Frag} {G₀ H₀ G H:Hp} {ρ:zaZ} {σ:St} (A:At Γ K G₀ H₀ G H ρ σ):At Γ K G H G H (zet fv ρ) (zno fv σ)/\zgb (zet fv ρ):=by
 have no:zgb (zet fv ρ):=fun i ds e=>by
  unfold zet at e
  rw [qm] at e
  obtain ⟨o,ho,e⟩:=oMd e
  cases o with
  | none=>cases e
  | some j =>
   simp only [qc] at e
   split at e <;> cases e
   exact ⟨_,rfl⟩
 refine ⟨⟨.refl A.gh,.ofSh (by simp [zet,zno]) no fun i d e=>?_⟩,no⟩
 unfold zet at e
 unfold zno
 rw [qm] at e ⊢
 obtain ⟨o,ho,e⟩:=oMd e
 rw [ho]
 cases o with
 | none=>cases e
 | some j =>
  simp only [qc] at e
  split at e
  ·rename_i d' hd'
   cases e
   obtain ⟨v,h1,h2⟩:=A.env.sh j d hd'
   exact ⟨v,by simp [h1],h2⟩
  ·cases e
theorem zls (no:∀ d ρ ρ',g d ρ=some ρ'->zgb ρ->zgb ρ'):∀ σ H Q,TDo Γ X.K (zaP fi g ft fe fv) σ H Q->tLC (TDi Γ X.K fi) (TDg Γ X.K g) (TDt Γ X.K ft) (TD Γ X.K fe) fv σ H Q:=by
 rintro σ H Q ⟨G₀,H₀,G,ρ,ds,A,h,k⟩
 unfold zaP at h
 obtain ⟨xs,hx,h⟩:=oBd h
 split at h
 case isFalse=>cases h
 rename_i hz
 refine ⟨G₀,H₀,G,ρ,xs,A,hx,fun J G1 H1 s1 Y acc hacc=>?_⟩
 have gacc:G1 acc=none:=s1.gh.free hacc
 obtain ⟨A0,no0⟩:=zto (fv:=fv) (A.step s1)
 refine ⟨fun i m ys σ' H'=>m=xs.length - i/\i<=xs.length/\ys.length<=i/\∃ G' ρ' done zgL,At Γ X.K G1 H1 G' H' ρ' σ'/\zgb ρ'/\H' acc=some (.lst ys)/\G' acc=none/\Reps Γ X.K G' ys done/\zfF g ft fe (xs.drop i) ρ'=some zgL/\done++zgL=ds,?_,?_⟩
 ·refine ⟨xs.length,rfl,Nat.zero_le _,qw _,G1,zet fv ρ,[],ds,?_,no0,zav,gacc,.nil,by rw [List.drop_zero];exact h,rfl⟩
  have sn:=Step.newOwn (o:=.lst []) s1.gh hacc
  exact ⟨sn,.ofSh A0.env.len no0 A0.env.sh⟩
 ·rintro i m ys σ' H' ⟨hm,hi,hyi,G',ρ',done,zgL,A',no',hacc',gacc',ry,hr,hd⟩
  subst hm
  refine ⟨hacc',?_⟩
  by_cases hlt:i < xs.length
  ·right
   have hxi:xs[i]?=some xs[i]:=by simp [hlt]
   obtain ⟨go,yl⟩:=Y.go i _ G' H' hxi A'.st.gg A'.gh
   refine ⟨go,fun x H2 hy=>?_⟩
   obtain ⟨G2,s2,r2⟩:=yl x H2 hy
   have A2:=A'.step s2
   have hdr:xs.drop i=xs[i]::xs.drop (i+1):=List.drop_eq_getElem_cons hlt
   rw [hdr] at hr
   unfold zfF at hr
   obtain ⟨ρ1,h1,hr⟩:=oBd hr
   obtain ⟨b,h2,hr⟩:=oBd hr
   refine ⟨G1,H1,G2,ρ',_,ρ1,A2,r2,h1,fun σ2 A3=>⟨G1,H1,G2,ρ1,b,A3,h2,fun G4 H4 s4=>?_⟩⟩
   have no1:=no _ _ _ h1 no'
   have hH4:H4 acc=some (.lst ys):=s4.hh _ _ (s2.hh _ _ hacc')
   have hG4:G4 acc=none:=(s4.out _ _ (s2.hh _ _ hacc')).trans ((s2.out _ _ hacc').trans gacc')
   cases b with
   | false =>
    rw [qV qt] at hr
    refine zr9 ⟨xs.length - (i+1),by omega,rfl,hlt,by omega,G4,ρ1,done,zgL,A3.step s4,no1,hH4,hG4,(ry.mono s2.gg).mono s4.gg,hr,hd⟩
   | true =>
    rw [qU rfl] at hr
    obtain ⟨d,h3,hr⟩:=oBd hr
    obtain ⟨zs,h5,rfl⟩:=oMd hr
    refine zr8 ⟨G1,H1,G4,ρ1,d,A3.step s4,h3,fun v G5 H5 s5 r5=>?_⟩
    have A5:=(A3.step s4).step s5
    have hH5:H5 acc=some (.lst ys):=s5.hh _ _ hH4
    have hG5:G5 acc=none:=(s5.out _ _ hH4).trans hG4
    refine ⟨hH5,by omega,xs.length - (i+1),by omega,rfl,hlt,by rw [qk,List.length_singleton];omega,G5,ρ1,done++[d],zs,?_,no1,zav,hG5,((((ry.mono s2.gg).mono s4.gg).mono s5.gg).append (.cons r5 .nil)),h5,by rw [List.append_assoc];exact hd⟩
    refine ⟨⟨fun b o e=>?_,A5.st.gg,fun b o e=>?_,A5.st.out⟩,.ofSh A5.env.len no1 A5.env.sh⟩
    ·rw [zap (zan e hacc)];exact A5.st.hh b o e
    ·rw [zap (zan e hG5)];exact A5.st.gh b o e
  ·left
   have e:i=xs.length:=by omega
   subst e
   rw [List.drop_length] at hr
   cases hr
   rw [List.append_nil] at hd
   subst hd
   refine ⟨Y.stop G' H' A'.st.gg A'.gh,?_⟩
   have hf:H'=upd (fun b=>if b=acc then none else H' b) acc (.lst ys):=by
    funext b
    by_cases hb:b=acc
    ·subst hb;rw [zav];exact hacc'
    ·rw [zap hb,qV hb]
   rw [hf]
   refine k acc ys G' (fun b=>if b=acc then none else H' b) (s1.trans ⟨fun b o e=>?_,A'.st.gg,fun b o e=>?_,A'.st.out⟩) (qU rfl) ry
   ·show (if b=acc then none else H' b)=some o
    rw [qV (zan e hacc)];exact A'.st.hh b o e
   ·show (if b=acc then none else H' b)=some o
    rw [qV (zan e gacc')];exact A'.st.gh b o e
theorem zcs (hc:X.calm=true) (S:CompScope X scope) (F:FvOk X N' scope fv) (hi:DI Γ X tg iter fi) (hb:DB Γ X N' scope tg ifs elt g ft fe) (hs:∀ x,foldedSetIterable iter X.env x=pure x:=by intro _;rfl) :
  DO Γ X (.ListComp elt [⟨tg,iter,ifs,0⟩] scope pos) (zaP fi g ft fe fv):=⟨(zup hc S F hi.1 hb.pb hs).imp (zls (hb.1 [] 0 X.s₀ X.H₀ []).1.no)⟩
end
end L2
end
section
namespace L2
open PySem PySem.Spec PyProof.Rows
section
variable {Γ:Cn} {X:Cx} {a b c e tg iter:Expr} {es:List Expr} {fa fb fc f:FE} {fr fi:FA} {pos p2 p:Pos} {g g':FS} {st:Stmt} {sts:List Stmt} {ft:FT}
def zbX:FS:=fun ρ=>some (.nx,ρ)
def zay (g g':FS):FS:=fun ρ=>(g ρ).bind fun r=>match r.1 with
 | .nx=>g' r.2
 | fl=>some (fl,r.2)
theorem zaH:DSs Γ X [] zbX:=⟨zqy.imp fun E σ H=>by
 rintro ⟨G₀,H₀,G,ρ,fl,ρ',A,h,k⟩
 cases h
 exact k σ G H (.refl _) A⟩
theorem zaj (h:DS Γ X st g):DSs Γ X [st] g:=⟨zqx h.1⟩
theorem zad (h1:DS Γ X st g) (h2:DSs Γ X sts g'):DSs Γ X (st::sts) (zay g g'):=⟨(zou h1.1 h2.1).imp fun E σ H=>by
 rintro ⟨G₀,H₀,G,ρ,fl,ρ',A,h,k⟩
 unfold zay at h
 obtain ⟨⟨fl1,ρ1⟩,h1,h⟩:=oBd h
 refine ⟨G₀,H₀,G,ρ,fl1,ρ1,A,h1,fun σ1 G1 H1 sm A1=>?_⟩
 cases fl1 with
 | nx=>exact ⟨G₀,H₀,G1,ρ1,fl,ρ',A1,h,fun σ' G' H' sm' A'=>k σ' G' H' (sm.trans sm') A'⟩
 | bk=>cases h;exact k σ1 G1 H1 sm A1
 | ct=>cases h;exact k σ1 G1 H1 sm A1
 | rt d=>cases h;exact k σ1 G1 H1 sm A1
 | ow d=>cases h;exact k σ1 G1 H1 sm A1
 | nw d=>cases h;exact k σ1 G1 H1 sm A1
 | od d=>cases h;exact k σ1 G1 H1 sm A1⟩
def zbb (f:FE):FS:=fun ρ=>(f ρ).map fun d=>(.rt d,ρ)
theorem zaw (h:DE Γ X e f):DS Γ X (.Return (some e) pos) (zbb f):=⟨(zmz h.1).imp fun E σ H=>by
 rintro ⟨G₀,H₀,G,ρ,fl,ρ',A,h,k⟩
 unfold zbb at h
 obtain ⟨d,hd,h⟩:=oMd h
 cases h
 exact ⟨G₀,H₀,G,ρ,d,A,hd,fun v G' H' s r=>k σ G' H' s.gg (A.step s) v r⟩⟩
def zba (i:Nat) (f:FE):FS:=fun ρ=>(f ρ).map fun d=>(.nx,ρ.set i (some (.sh d)))
theorem zaG (i:Nat) {x:Str} {pos':Pos} (hN:X.N.Nodup) (h:DE Γ X e f) (hi:X.N[i]?=some x:=by rfl) (hx:Loc X.env.scope x:=by first | exact Or.inl rfl | exact Or.inr rfl) (hs:swapsWith e (some (.Name x pos')) pos.line X.env=pure false:=by rfl) (hf:X.fn x=true\/X.env.scope.names.lookup x=some .local:=by first | exact .inl rfl | exact .inr rfl | assumption) :
  DS Γ X (.Assign [.Name x pos'] e pos) (zba i f):=⟨(zk4 hN hi hx h.1 hs hf).imp fun E σ H=>by
 rintro ⟨G₀,H₀,G,ρ,fl,ρ',A,h,k⟩
 unfold zba at h
 obtain ⟨d,hd,h⟩:=oMd h
 cases h
 exact ⟨G₀,H₀,G,ρ,d,A,hd,fun v G' H' s r=>k _ G' H' s.gg ((A.step s).setSh r)⟩⟩
def zhG (i:Nat) (f:FA):FS:=fun ρ=>(f ρ).map fun d=>(.nx,ρ.set i (some (.own d)))
theorem zsT {i:Nat}:∀ E σ H,TDs Γ X.K (zhG i fr) E σ H->zsm (TDo Γ X.K fr) (znn i) E σ H:=by
 rintro E σ H ⟨G₀,H₀,G,ρ,fl,ρ',A,h,k⟩
 unfold zhG at h
 obtain ⟨d,hd,h⟩:=oMd h
 cases h
 exact ⟨G₀,H₀,G,ρ,d,A,hd,fun p vs G' H' s hp r=>k _ G' _ s.gg ((A.step s).setOwn hp r)⟩
theorem zdG (i:Nat) {x:Str} {pos':Pos} (hN:X.N.Nodup) (h:DO Γ X e fr) (hi:X.N[i]?=some x:=by rfl) (hx:Loc X.env.scope x:=by first | exact Or.inl rfl | exact Or.inr rfl) (hs:swapsWith e (some (.Name x pos')) pos.line X.env=pure false:=by rfl) (hf:X.fn x=true\/X.env.scope.names.lookup x=some .local:=by first | exact .inl rfl | exact .inr rfl | assumption) :
  DS Γ X (.Assign [.Name x pos'] e pos) (zhG i fr):=⟨(zk4 hN hi hx h.1 hs hf).imp zsT⟩
theorem zst {i:Nat}:∀ E σ H,TDs Γ X.K (zba i (za1 fr)) E σ H->zsm (TDo Γ X.K fr) (znn i) E σ H:=by
 rintro E σ H ⟨G₀,H₀,G,ρ,fl,ρ',A,h,k⟩
 unfold zba za1 at h
 obtain ⟨d,hd,h⟩:=oMd h
 obtain ⟨ds,hd',rfl⟩:=oMd hd
 cases h
 refine ⟨G₀,H₀,G,ρ,ds,A,hd',fun p vs G' H' s hp r=>?_⟩
 have s2:=Step.new (o:=.lst vs) s.gh hp
 exact k _ _ _ (s.gg.trans s2.gg) (((A.step s).step s2).setSh (.lst zav (r.mono s2.gg)))
variable {scope:Scope} {N':List Str} {fv:List (Option Nat)} {gg:FG} {fe:FE} {ifs:List Expr} {elt:Expr}
theorem zlZ (i:Nat) {y:Str} {py spos:Pos} (hN:X.N.Nodup) (hc:X.calm=true) (S:CompScope X scope) (F:FvOk X N' scope fv) (hi:DI Γ X tg iter fi) (hb:DB Γ X N' scope tg ifs elt gg ft fe)
  (hy:X.N[i]?=some y:=by rfl) (hyl:X.env.scope.names.lookup y=some .local:=by rfl) (hsw:swapsWith (.ListComp elt [⟨tg,iter,ifs,0⟩] scope pos) (some (.Name y py)) spos.line X.env=pure true:=by rfl) (hs:∀ x,foldedSetIterable iter X.env x=pure x:=by intro _;rfl) :
  DS Γ X (.Assign [.Name y py] (.ListComp elt [⟨tg,iter,ifs,0⟩] scope pos) spos) (zba i (za1 (zaP fi gg ft fe fv))):=⟨(zul hN hy hyl hc S F hi.1 hb.pb hsw hs).imp fun E σ H q=>zls (hb.1 [] 0 X.s₀ X.H₀ []).1.no σ H _ (zst E σ H q)⟩
def zfX (i:Nat) (f:FE):FS:=fun ρ=>match ρ[i]? with
 | some (some (.own ds))=>(f ρ).bind fun d=>if ds.length < sizeLine then some (.nx,ρ.set i (some (.own (ds++[d])))) else none
 | _=>none
theorem zcu (i:Nat) {x:Str} {vp apos cpos:Pos} (h:DE Γ X e f) (hN:X.N[i]?=some x:=by rfl) (hv:Vis X.env.scope x:=by first | exact Or.inl rfl | exact Or.inr (Or.inl rfl) | exact Or.inr (Or.inr rfl)) (hd:(x==("__debug__":Str))=false:=by decide)
  (hcd:(x==("__classdict__":Str))=false:=by decide)
  (hbase:attributeBase (.Name x vp) "append" X.env (eval (.Name x vp) X.env)=eval (.Name x vp) X.env:=by rfl)
  (hfew:((backTo cpos (starEach [e] X.env)).all (fun x=>!x.1) && (backToKw cpos (keywordEach [] X.env)).all (fun x=>x.1.isSome)
   && decide ([e].length+([]:List Keyword).length+(if ([]:List Keyword).isEmpty then 0 else 1) < 30))=true:=by rfl)
  (hline:(apos.endLine==cpos.line)=true:=by rfl) (hs:starEach [e] X.env=(false,eval e X.env)::starEach [] X.env:=by rfl) (hplain:(backTo cpos (starEach [] X.env)).any (·.1)=false:=by rfl)
  (hsw:swapsWith (.Call (.Attribute (.Name x vp) "append" apos) [e] [] cpos) none pos.line X.env=pure false:=by rfl) :
  DS Γ X (.Expr (.Call (.Attribute (.Name x vp) "append" apos) [e] [] cpos) pos) (zfX i f):=⟨(zkj (zqM PySem.F.plainAttrs_list PySem.F.slot_list_append PySem.F.type_list_append zjy (zd6 hN hv hd hcd) (zdV h.1 zfA hs) hbase hfew hline hs hplain) hsw).imp fun E σ H=>by
  rintro ⟨G₀,H₀,G,ρ,fl,ρ',A,h,k⟩
  unfold zfX at h
  split at h
  ·rename_i ds hi
   obtain ⟨d,hd,h⟩:=oBd h
   split at h
   ·rename_i hz
    cases h
    obtain ⟨a,vs,h1,h2,h3,h4,h5⟩:=A.env.own i ds hi
    refine ⟨.ref a,h1,.inl ⟨rfl,vs,.inl (.inl h4)⟩,G₀,H₀,G,ρ,d,A,hd,fun v G1 H1 s1 r1=>?_⟩
    have A1:=A.step s1
    refine ⟨a,vs,v,rfl,rfl,s1.hh _ _ h4,by rw [h5.length];exact hz,?_⟩
    exact k σ G1 _ s1.gg (A1.chOwn hi h1 ((h5.mono s1.gg).append (.cons r1 .nil)))
   ·cases h
  ·cases h⟩
def zh6 (i:Nat) (g:FS):FS:=fun ρ=>match ρ[i]? with
 | some (some (.own ds))=>g (ρ.set i (some (.sh (.lst ds))))
 | _=>none
theorem TDs.frz (i:Nat):∀ E σ H,TDs Γ X.K (zh6 i g) E σ H->TDs Γ X.K g E σ H:=by
 rintro E σ H ⟨G₀,H₀,G,ρ,fl,ρ',A,h,k⟩
 unfold zh6 at h
 split at h
 ·rename_i ds hi
  obtain ⟨G',sm,A'⟩:=A.freeze hi
  exact ⟨G₀,H₀,G',_,fl,ρ',A',h,fun σ1 G1 H1 sm1 A1=>k σ1 G1 H1 (sm.trans sm1) A1⟩
 ·cases h
theorem zc1 (i:Nat) (h:DSs Γ X sts g):DSs Γ X sts (zh6 i g):=⟨h.1.imp (TDs.frz i)⟩
def sIf (ft:FT) (g g':FS):FS:=fun ρ=>(ft ρ).bind fun c=>if c=true then g ρ else g' ρ
theorem zbD {sa sb:List Stmt} (hc:DT Γ X c ft) (ha:DSs Γ X sa g) (hb:DSs Γ X sb g'):DS Γ X (.If c sa sb pos) (sIf ft g g'):=⟨(zum hc.1 ha.1 hb.1).imp fun E σ H=>by
 rintro ⟨G₀,H₀,G,ρ,fl,ρ',A,h,k⟩
 unfold sIf at h
 obtain ⟨x,hx,h⟩:=oBd h
 refine ⟨G₀,H₀,G,ρ,x,A,hx,fun G1 H1 s1=>?_⟩
 cases x with
 | true=>exact zr8 ⟨G₀,H₀,G1,ρ,fl,ρ',A.step s1,by simpa using h,fun σ2 G2 H2 sm2 A2=>k σ2 G2 H2 (s1.gg.trans sm2) A2⟩
 | false=>exact zr9 ⟨G₀,H₀,G1,ρ,fl,ρ',A.step s1,by simpa using h,fun σ2 G2 H2 sm2 A2=>k σ2 G2 H2 (s1.gg.trans sm2) A2⟩⟩
def zoo (gg:FG) (f:FE):FS:=fun ρ=>(f ρ).bind fun d=>(gg d ρ).map fun ρ'=>(.nx,ρ')
theorem zpP (h:DE Γ X e f) (hg:DG Γ X tg gg) (hs:swapsWithSole [tg] e pos.line X.env=pure false:=by rfl) (hw:swappedStores [tg] e X.env=pure none:=by rfl)
  (h1:(assignEach [tg] X.env).map (·.2)=[assign tg X.env]:=by rfl):DS Γ X (.Assign [tg] e pos) (zoo gg f):=⟨(zmA h.1 hg.pg hs hw h1).imp fun E σ H=>by
 rintro ⟨G₀,H₀,G,ρ,fl,ρ',A,h,k⟩
 unfold zoo at h
 obtain ⟨d,hd,h⟩:=oBd h
 obtain ⟨ρ1,h1,h⟩:=oMd h
 cases h
 exact ⟨G₀,H₀,G,ρ,d,A,hd,fun v G' H' s r=>⟨G₀,H₀,G',ρ,d,ρ',A.step s,r,h1,fun σ' A'=>k σ' G' H' s.gg A'⟩⟩⟩
def zlX (gg:FG) (body:FS):List D->FS
 | [],ρ=>some (.nx,ρ)
 | x::xs,ρ=>(gg x ρ).bind fun ρ1=>(body ρ1).bind fun r=>match r.1 with
  | .nx=>zlX gg body xs r.2
  | .ct=>zlX gg body xs r.2
  | .bk=>some (.nx,r.2)
  | .rt d=>some (.rt d,r.2)
  | .ow d=>some (.ow d,r.2)
  | .nw d=>some (.nw d,r.2)
  | .od d=>some (.od d,r.2)
def zeR (fi:FA) (gg:FG) (body:FS):FS:=fun ρ=>(fi ρ).bind fun xs=>zlX gg body xs ρ
theorem zcg {body:List Stmt} (hp:PassesOwn (model X.prog X.w) X.A X.env X.xe) (hc:X.calm=true) (hi:DI Γ X tg iter fi) (hg:DG Γ X tg gg) (hb:DSs Γ X body g) (hs:∀ x,foldedSetIterable iter X.env x=pure x:=by intro _;rfl) :
  DS Γ X (.For tg iter body [] pos) (zeR fi gg g):=⟨(zsG hp hc hi.1 hg.pg hb.1 hs).imp fun E σ H=>by
 rintro ⟨G₀,H₀,G,ρ,fl,ρ',A,h,k⟩
 unfold zeR at h
 obtain ⟨xs,hx,h⟩:=oBd h
 refine ⟨G₀,H₀,G,ρ,xs,A,hx,fun J G1 H1 s1 Y=>?_⟩
 refine ⟨fun i m σ' H'=>m=xs.length - i/\i<=xs.length/\∃ G' ρ1,zbV G1 G'/\At Γ X.K G₀ H₀ G' H' ρ1 σ'/\zlX gg g (xs.drop i) ρ1=some (fl,ρ'),⟨xs.length,rfl,Nat.zero_le _,G1,ρ,.refl _,A.step s1,by rw [List.drop_zero];exact h⟩,?_⟩
 rintro i m σ' H' ⟨rfl,hi,G',ρ1,sm,A',hr⟩
 by_cases hlt:i < xs.length
 ·right
  have hxi:xs[i]?=some xs[i]:=by simp [hlt]
  obtain ⟨go,yl⟩:=Y.go i _ G' H' hxi sm A'.gh
  have hdr:xs.drop i=xs[i]::xs.drop (i+1):=List.drop_eq_getElem_cons hlt
  rw [hdr] at hr
  unfold zlX at hr
  obtain ⟨ρ2,h2,hr⟩:=oBd hr
  obtain ⟨⟨fl3,ρ3⟩,h3,hr⟩:=oBd hr
  refine ⟨go,fun σ3 H3=>(fl3=.nx\/fl3=.ct)/\∃ G3,zbV G1 G3/\At Γ X.K G₀ H₀ G3 H3 ρ3 σ3,fun σ3 H3 ⟨hfl,G3,sm3,A3⟩=>?_,fun x H2 hy=>?_⟩
  ·refine ⟨xs.length - (i+1),by omega,rfl,hlt,G3,ρ3,sm3,A3,?_⟩
   rcases hfl with e | e <;> subst e <;> exact hr
  ·obtain ⟨G2,s2,r2⟩:=yl x H2 hy
   refine ⟨G₀,H₀,G2,ρ1,_,ρ2,A'.step s2,r2,h2,fun σ2 A2=>⟨G₀,H₀,G2,ρ2,fl3,ρ3,A2,h3,fun σ3 G3 H3 sm3 A3=>?_⟩⟩
   have smm:zbV G1 G3:=(sm.trans s2.gg).trans sm3
   cases fl3 with
   | nx=>exact ⟨.inl rfl,G3,smm,A3⟩
   | ct=>exact ⟨.inr rfl,G3,smm,A3⟩
   | bk=>cases hr;exact k σ3 G3 H3 (s1.gg.trans smm) A3
   | rt d=>cases hr;exact k σ3 G3 H3 (s1.gg.trans smm) A3
   | ow d=>cases hr;exact k σ3 G3 H3 (s1.gg.trans smm) A3
   | nw d=>cases hr;exact k σ3 G3 H3 (s1.gg.trans smm) A3
   | od d=>cases hr;exact k σ3 G3 H3 (s1.gg.trans smm) A3
 ·left
  have e:i=xs.length:=by omega
  subst e
  rw [List.drop_length] at hr
  cases hr
  exact ⟨Y.stop G' H' sm A'.gh,k σ' G' H' (s1.gg.trans sm) A'⟩⟩
end
end L2
end
section
namespace L2
open PySem PySem.Spec PyProof.Rows
section
variable {Γ:Cn} {X:Cx} {a b c e tg iter:Expr} {es:List Expr} {fa fb fc f fk fw:FE} {fr fi:FA} {pos p2 p:Pos}
def spF (Γ:Cn) (K:PySem.W.Frag) (n:Nat) (F:List D->Option D):Sp:=fun vs H Q _=>∃ G ds d,zbV G H/\Reps Γ K G vs ds/\ds.length=n/\F ds=some d/\∀ v G' H',Step G H G' H'->Rep Γ K G' v d->Q v H'
def zb9 (n:Nat) (g:FS):List D->Option D:=fun ds=>(g (ds.map (fun d=>some (Slot.sh d))++List.replicate n none)).bind fun r=>match r.1 with
 | .rt d=>some d
 | .nx=>some .non
 | _=>none
theorem zgQ {K:PySem.W.Frag} {G H:Hp} {vs:List V} {ds:List D} {N:List Str} {m:Nat} (gh:zbV G H) (r:Reps Γ K G vs ds) (hm:m=N.length - vs.length):At Γ K G H G H (ds.map (fun d=>some (Slot.sh d))++List.replicate m none) (zfv N vs):=by
 have no:zgb (ds.map (fun d=>some (Slot.sh d))++List.replicate m none):=fun i es e=>by
  by_cases hi:i < ds.length
  ·rw [qy (by simpa using hi),qm] at e
   obtain ⟨d,_,e⟩:=oMd e
   cases e
   exact ⟨_,rfl⟩
  ·rw [qI (by simpa using hi),List.getElem?_replicate] at e
   split at e <;> cases e
 refine ⟨.refl gh,.ofSh (by simp [zfv,r.length,hm]) no fun i d e=>?_⟩
 by_cases hi:i < ds.length
 ·rw [qy (by simpa using hi),qm] at e
  obtain ⟨d',hd,e⟩:=oMd e
  cases e
  obtain ⟨v,hv,rv⟩:=r.get hd
  refine ⟨v,?_,rv⟩
  unfold zfv
  rw [qy (by rw [qg,r.length];exact hi),qm,hv]
  rfl
 ·rw [qI (by simpa using hi),List.getElem?_replicate] at e
  split at e <;> cases e
theorem Fun.okD {P:Program} {w:World} {K:PySem.W.Frag} {mg:Str->Option Value} {base:Heap} {x qual:Str} {st:Stmt} {f:Addr} {fd:FuncData} {N ps:List Str} {k:Nat} {g:FS} (F:Fun K x qual st f fd) (S:FnScope N ps (zak st))
  (hbody:∀ (cdv:Value) (A:Around) (outer:List Env) (s:Shared) (H:Hp) (E:XK),Room k (A.deeper (envOfC qual (zak st) s.heap.objs.size f cdv)) ->
   DSs Γ (zj6 CX0 P w K mg base N qual (zak st) f cdv A outer s H E).nox (zbu st) g):FnOk P w K mg base CX0 (k+1) f fd ps (spF Γ K ps.length (zb9 (N.length - ps.length) g)):=by
 refine F.ok S (fun vs H Q E h=>?_) (fun cdv A outer s H vs Q E hr h=>?_)
 ·obtain ⟨G,ds,d,_,r,hl,_⟩:=h
  rw [r.length,hl]
 ·obtain ⟨G,ds,d,gh,r,hl,hd,k⟩:=h
  refine ⟨_,(hbody cdv A outer s H E hr).1,?_⟩
  unfold zb9 at hd
  obtain ⟨⟨fl,ρ'⟩,hg,hd⟩:=oBd hd
  refine ⟨G,H,G,_,fl,ρ',zgQ gh r (by rw [r.length,hl]),hg,fun σ' G' H' sm A'=>?_⟩
  cases fl with
  | rt d'=>cases hd;exact fun v rv=>k v G' H' A'.st rv
  | nx=>cases hd;exact k .non G' H' A'.st .non
  | bk=>cases hd
  | ct=>cases hd
  | ow d=>cases hd
  | nw d=>cases hd
  | od d=>cases hd
theorem zrB {k:Nat} {fx:Addr} {fd:FuncData} {ps:List Str} {n:Nat} {F:List D->Option D} {x:Str} (Fo:FnOk X.prog X.w X.K X.mg X.base CX0 k fx fd ps (spF Γ X.K n F)) (hr:Room k X.A) (hg:Gl X x) (hm:X.mg x=some (.ref fx)) (hk:PySem.W.keepIn X.K (.ref fx)=true) (hb:zdF X.K fd ps [])
  (ha:DA Γ X (e::es) fr) (hn:∀ ρ ds,fr ρ=some ds->ds.length=n) (hdb:(x==("__debug__":Str))=false:=by decide) (he:starEach (e::es) X.env=(false,eval e X.env)::starEach es X.env:=by rfl) (hpl:(backTo pos (starEach es X.env)).any (·.1)=false:=by rfl) :
  DE Γ X (.Call (.Name x p) (e::es) [] pos) (cF F fr):=⟨(zkk Fo hr hg hm hk hb .nil zlM ha.1 hdb he hpl).imp fun σ H Q=>by
 rintro ⟨G₀,H₀,G,ρ,d,A,h,k⟩
 unfold cF at h
 obtain ⟨ds,hd,h⟩:=oBd h
 refine ⟨G₀,H₀,G,ρ,ds,A,hd,fun vs G1 H1 s1 r1=>?_⟩
 show spF Γ X.K n F (vs++[]) H1 Q E0
 rw [List.append_nil]
 exact ⟨G1,ds,d,s1.gh,r1,hn ρ ds hd,h,fun v G' H' s r=>k v G' H' (s1.trans s) r⟩⟩
theorem zpq {ρ:zaZ} {ds:List D} (h:zal ρ=some ds):ds.length=0:=by cases h;rfl
theorem zdh {n:Nat} (hn:∀ ρ ds,fr ρ=some ds->ds.length=n):∀ ρ ds,zaa fa fr ρ=some ds->ds.length=n+1:=fun ρ ds h=>by
 unfold zaa at h
 obtain ⟨x,hx,h⟩:=oBd h
 obtain ⟨xs,hxs,rfl⟩:=oMd h
 rw [qj,hn ρ xs hxs]
end
end L2
end
section
namespace L2
open PySem PySem.Spec PyProof.Rows
structure Cal (Γ:Cn) (P:Program) (w:World) (K:PySem.W.Frag) (mg:Str->Option Value) (base:Heap) (x:Str) (n k:Nat) (F:List D->Option D):Prop where
 ex:∃ f fd ps,FnOk P w K mg base CX0 k f fd ps (spF Γ K n F)/\mg x=some (.ref f)/\PySem.W.keepIn K (.ref f)=true/\zdF K fd ps []
structure Dfn (K:PySem.W.Frag) (mg:Str->Option Value) (x:Str) (st:Stmt):Prop where
 ex:∃ f fd,Fun K x x st f fd/\mg x=some (.ref f)
section
variable {Γ:Cn} {X:Cx} {e:Expr} {es:List Expr} {fr:FA} {pos p:Pos}
theorem zij {x:Str} {n k:Nat} {F:List D->Option D} (C:Cal Γ X.prog X.w X.K X.mg X.base x n k F) {j:Nat} (hr:Room j X.A) (hk:k<=j) (hg:Gl X x) (ha:DA Γ X (e::es) fr) (hn:∀ ρ ds,fr ρ=some ds->ds.length=n)
  (hdb:(x==("__debug__":Str))=false:=by decide) (he:starEach (e::es) X.env=(false,eval e X.env)::starEach es X.env:=by rfl) (hpl:(backTo pos (starEach es X.env)).any (·.1)=false:=by rfl) :
  DE Γ X (.Call (.Name x p) (e::es) [] pos) (cF F fr):=by
 obtain ⟨f,fd,ps,h1,h2,h3,h4⟩:=C.ex
 exact zrB h1 (hr.mono hk) hg h2 h3 h4 ha hn hdb he hpl
theorem Dfn.cal {P:Program} {w:World} {K:PySem.W.Frag} {mg:Str->Option Value} {base:Heap} {x:Str} {st:Stmt} {N ps:List Str} {k:Nat} {g:FS} (F:Dfn K mg x st) (S:FnScope N ps (zak st))
  (hb:∀ (kV doc pm:Value) (an:Option Addr) (cdv ct:Value) (us:List Value),us.length=ps.length->bindArgs (PySem.W.fnOf x x (zcC st) (zbu st) (zak st) .none kV doc pm an cdv ct) ⟨us,[]⟩=pure (ps.zip us))
  (hbody:∀ (f:Addr) (cdv:Value) (A:Around) (outer:List Env) (s:Shared) (H:Hp) (E:XK),Room k (A.deeper (envOfC x (zak st) s.heap.objs.size f cdv)) ->
   DSs Γ (zj6 CX0 P w K mg base N x (zak st) f cdv A outer s H E).nox (zbu st) g):Cal Γ P w K mg base x ps.length (k+1) (zb9 (N.length - ps.length) g):=by
 obtain ⟨f,fd,h1,h2⟩:=F.ex
 exact ⟨f,fd,ps,h1.okD S (hbody f),h2,h1.kp,h1.binds hb⟩
theorem Dfn.mk' {K:PySem.W.Frag} {h:Heap} {mg:Str->Option Value} {x:Str} {st:Stmt} {f:Addr} {oc:Value} {od an:Option Addr} {osl:Array (Option Value)} {kV doc pm cdv ct:Value} (X:K.In h) (G:h.Ns mainGlobals mg) (a:PySem.W.nsIn K mainGlobals x=some (some (.ref f)))
  (l:K.lookup f=some ⟨oc,od,.func (PySem.W.fnOf x x (zcC st) (zbu st) (zak st) .none kV doc pm an cdv ct),osl⟩) (c:PySem.W.codeIn K cdv x=true) (k:PySem.W.keepIn K (.ref f)=true):Dfn K mg x st :=
 ⟨f,_,znp l c k,PySem.W.mg_of X G a⟩
def ztJ (names:List (Str×NameKind)) (outer:List (Str×NameKind)):Bool :=
 names.all fun y=>y.2 != .cell && (y.2 != .local || names.lookup y.1==some .local) && (y.2 != .free || outer.lookup y.1==some .cell || outer.lookup y.1==some .free)
theorem CompScope.of {X:Cx} {scope:Scope} (hk:scope.kind=.function) (h:ztJ scope.names X.env.scope.names=true):CompScope X scope:=by
 unfold ztJ at h
 rw [List.all_eq_true] at h
 refine ⟨hk,fun y hy e=>?_,fun y hy e=>?_,fun y hy e=>?_⟩
 ·have:=h y hy
  rw [e] at this
  simp at this
 ·have:=h y hy
  rw [e] at this
  simpa using this
 ·have:=h y hy
  rw [e] at this
  simpa [Env.kindOf] using this
def ztp (N':List Str) (fv:List (Option Nat)) (N:List Str) (outer names:List (Str×NameKind)):Bool :=
 fv.length==N'.length && (N'.zip fv).all fun y=>match y.2 with
  | none=>true
  | some j=>N[j]?==some y.1 && (outer.lookup y.1==some .cell || outer.lookup y.1==some .free) && names.lookup y.1==some .free
theorem FvOk.of {X:Cx} {N':List Str} {scope:Scope} {fv:List (Option Nat)} (h:ztp N' fv X.N X.env.scope.names scope.names=true):FvOk X N' scope fv:=by
 unfold ztp at h
 rw [Bool.and_eq_true,List.all_eq_true] at h
 obtain ⟨h1,h2⟩:=h
 refine ⟨by simpa using h1,fun i j x e1 e2=>?_⟩
 have hm:(x,some j)∈N'.zip fv:=by
  refine List.mem_iff_getElem?.mpr ⟨i,?_⟩
  rw [List.getElem?_zip_eq_some]
  exact ⟨e1,e2⟩
 have:=h2 _ hm
 simp only [Bool.and_eq_true,Bool.or_eq_true,beq_iff_eq] at this
 exact ⟨this.1.1,this.1.2,this.2⟩
end
end L2
end
section
namespace L2
open PySem PySem.Spec PyProof.Rows
mutual
def pdD:D->Option PyData
 | .non=>some .none
 | .bl b=>some (.bool b)
 | .int i=>some (.int i)
 | .str x=>some (.str x)
 | .tup l=>(zlL l).map PyData.tuple
 | .lst l=>(zlL l).map PyData.list
 | .scr ns=>some (.list (ns.map PyData.int))
 | _=>none
def zlL:List D->Option (List PyData)
 | []=>some []
 | d::r=>(pdD d).bind fun p=>(zlL r).map (p::·)
end
section
variable {Γ:Cn} {X:Cx} {pins:List (Addr×Obj)} {σ:St} {G H:Hp} {s:Shared}
theorem zh8 {h:Heap}:∀ {ns:List Int} {us:List Value},zbS (ns.map V.int) us->∃ as,ReadsAll h us (ns.map PyData.int) as
 | [],_,r=>by rw [qM] at r;cases r;exact ⟨_,.nil⟩
 | n::ns,_,r=>by
  rw [qp] at r
  cases r with
  | cons r1 r2 =>
   obtain ⟨t,e⟩:=r1
   subst e
   obtain ⟨as,q⟩:=zh8 r2
   exact ⟨_,.cons (.int n t) q⟩
mutual
theorem Rep.reads (I:Inv X pins σ H s) (gh:zbV G H):∀ {v:V} {d:D} {u:Value} {p:PyData},Rep Γ X.K G v d->zca v u->pdD d=some p->∃ as,Reads s.heap u p as
 | _,_,u,p,.non,r,h=>by cases r;rw [pdD] at h;cases h;exact ⟨_,.none⟩
 | _,_,u,p,.bl b,r,h=>by cases r;rw [pdD] at h;cases h;exact ⟨_,.bool b⟩
 | _,_,u,p,.int i,r,h=>by obtain ⟨t,rfl⟩:=r;rw [pdD] at h;cases h;exact ⟨_,.int i t⟩
 | _,_,u,p,.str x,r,h=>by obtain ⟨t,rfl⟩:=r;rw [pdD] at h;cases h;exact ⟨_,.str x t⟩
 | _,_,u,p,.ty n,r,h=>by rw [pdD] at h;cases h;all_goals (intros;contradiction)
 | _,_,u,p,.tup ha rs,r,h=>by
  cases r
  rw [pdD] at h
  obtain ⟨ps,hp,rfl⟩:=oMd h
  obtain ⟨its,rv,⟨o,e1,e2,n,e3⟩,_⟩:=I.tuple (.inl (.inl (gh _ _ ha)))
  obtain ⟨as,q⟩:=Reps.reads I gh rs rv hp
  exact ⟨_,.tuple e1 e2 e3 (by simpa using q)⟩
 | _,_,u,p,.lst ha rs,r,h=>by
  cases r
  rw [pdD] at h
  obtain ⟨ps,hp,rfl⟩:=oMd h
  obtain ⟨its,rv,⟨o,n,e1,e2,_,e3⟩,_⟩:=I.list (.inl (.inl (gh _ _ ha)))
  obtain ⟨as,q⟩:=Reps.reads I gh rs rv hp
  exact ⟨_,.list e1 e2 e3 (by simpa using q)⟩
 | _,_,u,p,.scr hs,r,h=>by
  cases r
  rw [pdD] at h
  cases h
  obtain ⟨its,rv,⟨o,n,e1,e2,_,e3⟩,_⟩:=I.list (gh.seq hs)
  obtain ⟨as,q⟩:=zh8 (h:=s.heap) rv
  exact ⟨_,.list e1 e2 e3 (by simpa using q)⟩
 | _,_,u,p,.dk ha _ _,r,h=>by rw [pdD] at h;cases h;all_goals (intros;contradiction)
 | _,_,u,p,.fdk ha _ _,r,h=>by rw [pdD] at h;cases h;all_goals (intros;contradiction)
 | _,_,u,p,.dt ha _ _,r,h=>by rw [pdD] at h;cases h;all_goals (intros;contradiction)
 | _,_,u,p,.ins ha _ _ _,r,h=>by rw [pdD] at h;cases h;all_goals (intros;contradiction)
theorem Reps.reads (I:Inv X pins σ H s) (gh:zbV G H):∀ {vs:List V} {ds:List D} {us:List Value} {ps:List PyData},Reps Γ X.K G vs ds->zbS vs us->zlL ds=some ps->∃ as,ReadsAll s.heap us ps as
 | _,_,_,_,.nil,r,h=>by cases r;rw [zlL] at h;cases h;exact ⟨_,.nil⟩
 | _,_,_,_,.cons r1 r2,r,h=>by
  cases r with
  | cons q1 q2 =>
   rw [zlL] at h
   obtain ⟨p,hp,h⟩:=oBd h
   obtain ⟨ps,hps,rfl⟩:=oMd h
   obtain ⟨as,a1⟩:=Rep.reads I gh r1 q1 hp
   obtain ⟨bs,a2⟩:=Reps.reads I gh r2 q2 hps
   exact ⟨_,.cons a1 a2⟩
end
end
section
variable {Γ:Cn} {X:Cx} {a b c e:Expr} {es:List Expr} {fa fb fc f:FE} {fr:FA} {pos:Pos}
def eqX (x y:D):Option Bool:=(pdD x).bind fun p=>(pdD y).bind fun q=>if SeqAt.shaped p=true/\SeqAt.shaped q=true then some (PyData.eqv p q) else none
def zuK (x y:D):Option D:=(eqX x y).map D.bl
def zs9 (x y:D):Option D:=(eqX x y).map fun b=>D.bl (!b)
def rX (Γ:Cn) (K:PySem.W.Frag) (neg:Bool):R2:=fun x y H Q=>∃ G d e b,zbV G H/\Rep Γ K G x d/\Rep Γ K G y e/\eqX d e=some b/\Q (.bl (if neg then !b else b)) H
theorem ziQ {x y:D} {b:Bool} (h:eqX x y=some b):∃ p q,pdD x=some p/\pdD y=some q/\SeqAt.shaped p=true/\SeqAt.shaped q=true/\b=PyData.eqv p q:=by
 unfold eqX at h
 obtain ⟨p,hp,h⟩:=oBd h
 obtain ⟨q,hq,h⟩:=oBd h
 split at h
 ·rename_i hz
  cases h
  exact ⟨p,q,hp,hq,hz.1,hz.2,rfl⟩
 ·cases h
theorem zs3 (hu:X.A.units+64 < cLine):OpR X (compareOp .Eq) (rX Γ X.K false):=by
 intro pins s σ H x y v u Q I rx ry h
 obtain ⟨G,d,e,b,gh,r1,r2,hb,q⟩:=h
 obtain ⟨p,q',hp,hq,s1,s2,rfl⟩:=ziQ hb
 obtain ⟨as,a1⟩:=r1.reads I gh rx hp
 obtain ⟨bs,a2⟩:=r2.reads I gh ry hq
 exact eq_dataH a1 a2 s1 s2 hu ⟨.bl _,H,I,rfl,q⟩
theorem zsY (hu:X.A.units+64 < cLine):OpR X (compareOp .NotEq) (rX Γ X.K true):=by
 intro pins s σ H x y v u Q I rx ry h
 obtain ⟨G,d,e,b,gh,r1,r2,hb,q⟩:=h
 obtain ⟨p,q',hp,hq,s1,s2,rfl⟩:=ziQ hb
 obtain ⟨as,a1⟩:=r1.reads I gh rx hp
 obtain ⟨bs,a2⟩:=r2.reads I gh ry hq
 exact ne_dataH a1 a2 s1 s2 hu ⟨.bl _,H,I,rfl,q⟩
theorem ztN (hu:X.A.units+64 < cLine):CmpD Γ X .Eq zuK:=⟨_,zs3 (Γ:=Γ) hu,fun {G H v u x y z} gh r1 r2 h Q k=>by
 unfold zuK at h
 obtain ⟨b,hb,rfl⟩:=oMd h
 exact ⟨G,x,y,b,gh,r1,r2,hb,k _ G H (.refl gh) (.bl _)⟩⟩
theorem ztL (hu:X.A.units+64 < cLine):CmpD Γ X .NotEq zs9:=⟨_,zsY (Γ:=Γ) hu,fun {G H v u x y z} gh r1 r2 h Q k=>by
 unfold zs9 at h
 obtain ⟨b,hb,rfl⟩:=oMd h
 exact ⟨G,x,y,b,gh,r1,r2,hb,k _ G H (.refl gh) (.bl _)⟩⟩
def inX (x y:D):Option Bool:=(pdD x).bind fun p=>(pdD y).bind fun q=>match q with
 | .list l=>if SeqAt.shaped p=true/\PyData.canLayAll0 l=true then some (l.any fun z=>PyData.eqv z p) else none
 | _=>none
def ztm (x y:D):Option D:=(inX x y).map D.bl
def zff (x y:D):Option D:=(inX x y).map fun b=>D.bl (!b)
def zu9 (Γ:Cn) (K:PySem.W.Frag) (neg:Bool):R2:=fun x y H Q=>∃ G d e b,zbV G H/\Rep Γ K G x d/\Rep Γ K G y e/\inX d e=some b/\Q (.bl (if neg then !b else b)) H
theorem zlj {x y:D} {b:Bool} (h:inX x y=some b):∃ p l,pdD x=some p/\pdD y=some (.list l)/\SeqAt.shaped p=true/\PyData.canLayAll0 l=true/\b=l.any fun z=>PyData.eqv z p:=by
 unfold inX at h
 obtain ⟨p,hp,h⟩:=oBd h
 obtain ⟨q,hq,h⟩:=oBd h
 split at h
 ·split at h
  ·rename_i hz
   cases h
   exact ⟨p,_,hp,hq,hz.1,hz.2,rfl⟩
  ·cases h
 ·cases h
theorem zh5 {p:PyData} (h:SeqAt.shaped p=true):p.canLay0=true/\p.depth<=64:=by
 unfold SeqAt.shaped at h
 rw [Bool.and_eq_true] at h
 exact ⟨h.1,of_decide_eq_true h.2⟩
theorem zs2 (hu:X.A.units+66 < cLine):OpR X (compareOp .In) (zu9 Γ X.K false):=by
 intro pins s σ H x y v u Q I rx ry h
 obtain ⟨G,d,e,b,gh,r1,r2,hb,q⟩:=h
 obtain ⟨p,l,hp,hq,s1,s2,rfl⟩:=zlj hb
 obtain ⟨as,a1⟩:=r1.reads I gh rx hp
 obtain ⟨bs,a2⟩:=r2.reads I gh ry hq
 obtain ⟨c1,c2⟩:=zh5 s1
 have:=Nat.min_le_right (PyData.depthAll l) p.depth
 exact SeqAt.in_list_reads a2 a1 s2 c1 (by omega) ⟨.bl _,H,I,rfl,q⟩
theorem zqP (hu:X.A.units+66 < cLine):OpR X (compareOp .NotIn) (zu9 Γ X.K true):=by
 intro pins s σ H x y v u Q I rx ry h
 obtain ⟨G,d,e,b,gh,r1,r2,hb,q⟩:=h
 obtain ⟨p,l,hp,hq,s1,s2,rfl⟩:=zlj hb
 obtain ⟨as,a1⟩:=r1.reads I gh rx hp
 obtain ⟨bs,a2⟩:=r2.reads I gh ry hq
 obtain ⟨c1,c2⟩:=zh5 s1
 have:=Nat.min_le_right (PyData.depthAll l) p.depth
 exact SeqAt.notIn_list_reads a2 a1 s2 c1 (by omega) ⟨.bl _,H,I,rfl,q⟩
theorem ztM (hu:X.A.units+66 < cLine):CmpD Γ X .In ztm:=⟨_,zs2 (Γ:=Γ) hu,fun {G H v u x y z} gh r1 r2 h Q k=>by
 unfold ztm at h
 obtain ⟨b,hb,rfl⟩:=oMd h
 exact ⟨G,x,y,b,gh,r1,r2,hb,k _ G H (.refl gh) (.bl _)⟩⟩
theorem zkA (hu:X.A.units+66 < cLine):CmpD Γ X .NotIn zff:=⟨_,zqP (Γ:=Γ) hu,fun {G H v u x y z} gh r1 r2 h Q k=>by
 unfold zff at h
 obtain ⟨b,hb,rfl⟩:=oMd h
 exact ⟨G,x,y,b,gh,r1,r2,hb,k _ G H (.refl gh) (.bl _)⟩⟩
theorem zd9 {k:Nat} (hr:Room k X.A):X.A.units+66 < cLine:=by have:=hr.un;omega
theorem zsa {k:Nat} (hr:Room k X.A):X.A.units+64 < cLine:=by have:=hr.un;omega
def ziL (d:D):Bool:=match d with
 | .non=>true
 | _=>false
def isD (x y:D):Option D:=match y with
 | .non=>some (.bl (ziL x))
 | _=>none
def zfE (x y:D):Option D:=match y with
 | .non=>some (.bl (!ziL x))
 | _=>none
theorem zh7 {K:PySem.W.Frag} {G:Hp} {v:V} {d:D} (r:Rep Γ K G v d):decide (v=.non)=ziL d:=by
 cases r <;> simp [ziL]
theorem zkB:CmpD Γ X .Is isD:=⟨_,zs1,fun {G H v u x y z} gh r1 r2 h Q k=>by
 unfold isD at h
 split at h <;> cases h
 exact ⟨r2.non_inv,by rw [zh7 r1];exact k _ G H (.refl gh) (.bl _)⟩⟩
theorem zgN:CmpD Γ X .IsNot zfE:=⟨_,zqO,fun {G H v u x y z} gh r1 r2 h Q k=>by
 unfold zfE at h
 split at h <;> cases h
 exact ⟨r2.non_inv,by rw [zh7 r1];exact k _ G H (.refl gh) (.bl _)⟩⟩
end
end L2
end
section
namespace L2
open PySem PySem.Spec PyProof.Rows
section
variable {Γ:Cn} {X:Cx} {a b c e o i:Expr} {es:List Expr} {fa fb fc f fo fk fx:FE} {fr fi:FA} {pos p apos cpos:Pos} {ft:FT} {g:FS} {x:Str}
def bwT (i:Nat) (ft:FT):FT:=fun ρ=>match ρ[i]? with
 | some (some (.own ds))=>ft (ρ.set i (some (.sh (.lst ds))))
 | _=>none
theorem Step.back {G G1 G' H H':Hp} (gh:zbV G H) (s1:zbV G G1) (s:Step G1 H G' H'):Step G H G H':=⟨s.hh,.refl _,(s1.trans s.gg).trans s.gh,fun _ _ _=>rfl⟩
theorem ztt (i:Nat) (h:DT Γ X c ft):DT Γ X c (bwT i ft):=⟨h.1.imp fun σ H Q=>by
 rintro ⟨G₀,H₀,G,ρ,b,A,h,k⟩
 unfold bwT at h
 split at h
 ·rename_i ds hi
  obtain ⟨G1,sm,A1⟩:=A.freeze hi
  exact ⟨G₀,H₀,G1,_,b,A1,h,fun G' H' s=>k G H' (s.back A.gh sm)⟩
 ·cases h⟩
theorem Rep.flat {K:PySem.W.Frag} {G G':Hp} {v:V} {d:D} (r:Rep Γ K G v d) (h:zlY d=true):Rep Γ K G' v d:=by
 cases r with
 | non=>exact .non
 | bl b=>exact .bl b
 | int i=>exact .int i
 | str x=>exact .str x
 | _=>cases h
def bwE (i:Nat) (f:FE):FE:=fun ρ=>match ρ[i]? with
 | some (some (.own ds))=>(f (ρ.set i (some (.sh (.lst ds))))).bind fun d=>if zlY d=true then some d else none
 | _=>none
theorem zuM (i:Nat) (h:DE Γ X c f):DE Γ X c (bwE i f):=⟨h.1.imp fun σ H Q=>by
 rintro ⟨G₀,H₀,G,ρ,d,A,h,k⟩
 unfold bwE at h
 split at h
 ·rename_i ds hi
  obtain ⟨d',hd',h⟩:=oBd h
  split at h
  ·rename_i hf
   cases h
   obtain ⟨G1,sm,A1⟩:=A.freeze hi
   exact ⟨G₀,H₀,G1,_,d,A1,hd',fun v G' H' s r=>k v G H' (s.back A.gh sm) (r.flat hf)⟩
  ·cases h
 ·cases h⟩
def zr1 (i:Nat) (f:FE):FS:=fun ρ=>match ρ[i]? with
 | some (some (.own ds))=>(f ρ).bind fun d=>match d with
  | .lst l=>if ds.length+l.length<=sizeLine then some (.nx,ρ.set i (some (.own (ds++l)))) else none
  | _=>none
 | _=>none
theorem znu (i:Nat) {vp:Pos} (h:DE Γ X e f) (hN:X.N[i]?=some x:=by rfl) (hv:Vis X.env.scope x:=by first | exact Or.inl rfl | exact Or.inr (Or.inl rfl) | exact Or.inr (Or.inr rfl)) (hd:(x==("__debug__":Str))=false:=by decide)
  (hcd:(x==("__classdict__":Str))=false:=by decide)
  (hbase:attributeBase (.Name x vp) "extend" X.env (eval (.Name x vp) X.env)=eval (.Name x vp) X.env:=by rfl)
  (hfew:((backTo cpos (starEach [e] X.env)).all (fun x=>!x.1) && (backToKw cpos (keywordEach [] X.env)).all (fun x=>x.1.isSome)
   && decide ([e].length+([]:List Keyword).length+(if ([]:List Keyword).isEmpty then 0 else 1) < 30))=true:=by rfl)
  (hline:(apos.endLine==cpos.line)=true:=by rfl) (hs:starEach [e] X.env=(false,eval e X.env)::starEach [] X.env:=by rfl) (hplain:(backTo cpos (starEach [] X.env)).any (·.1)=false:=by rfl)
  (hsw:swapsWith (.Call (.Attribute (.Name x vp) "extend" apos) [e] [] cpos) none pos.line X.env=pure false:=by rfl) :
  DS Γ X (.Expr (.Call (.Attribute (.Name x vp) "extend" apos) [e] [] cpos) pos) (zr1 i f):=⟨(zkj (zqM PySem.F.plainAttrs_list PySem.F.slot_list_extend PySem.F.type_list_extend zmU (zd6 hN hv hd hcd) (zdV h.1 zfA hs) hbase hfew hline hs hplain) hsw).imp fun E σ H=>by
  rintro ⟨G₀,H₀,G,ρ,fl,ρ',A,h,k⟩
  unfold zr1 at h
  split at h
  ·rename_i ds hi
   obtain ⟨d,hd,h⟩:=oBd h
   split at h
   ·rename_i l
    split at h
    ·rename_i hz
     cases h
     obtain ⟨a,vs,h1,h2,h3,h4,h5⟩:=A.env.own i ds hi
     refine ⟨.ref a,h1,.inl ⟨rfl,vs,.inl (.inl h4)⟩,G₀,H₀,G,ρ,_,A,hd,fun v G1 H1 s1 r1=>?_⟩
     have A1:=A.step s1
     obtain ⟨b,us,rfl,hb,rb⟩:=r1.lst_inv
     refine ⟨a,b,vs,us,rfl,rfl,s1.hh _ _ h4,s1.gh _ _ hb,by rw [h5.length,rb.length];exact hz,?_⟩
     exact k σ G1 _ s1.gg (A1.chOwn hi h1 ((h5.mono s1.gg).append rb))
    ·cases h
   ·cases h
  ·cases h⟩
def zoT:List D->Option D
 | [.int i]=>some (.int i)
 | [.bl k]=>some (.int (if k then 1 else 0))
 | _=>none
theorem zps:TyD Γ X "int" zoT:=⟨_,znR,fun {G H vs ds z} gh r h Q k=>by
 unfold zoT at h
 split at h <;> cases h
 ·obtain ⟨v,rfl,r1⟩:=r.one
  cases r1.int_inv
  exact .inl ⟨_,rfl,k _ G H (.refl gh) (.int _)⟩
 ·obtain ⟨v,rfl,r1⟩:=r.one
  cases r1.bl_inv
  exact .inr ⟨_,rfl,k _ G H (.refl gh) (.int _)⟩⟩
def zmg:List D->Option D
 | [.lst l]=>some (.tup l)
 | [.tup l]=>some (.tup l)
 | _=>none
theorem zod:TyD Γ X "tuple" zmg:=⟨_,zi1,fun {G H vs ds z} gh r h Q k=>by
 unfold zmg at h
 split at h <;> cases h
 ·obtain ⟨v,rfl,r1⟩:=r.one
  obtain ⟨a,us,rfl,ha,ra⟩:=r1.lst_inv
  exact ⟨a,us,rfl,.inl ⟨.inl (.inl (gh _ _ ha)),zkl gh ra k⟩⟩
 ·obtain ⟨v,rfl,r1⟩:=r.one
  obtain ⟨a,us,rfl,ha,ra⟩:=r1.tup_inv
  exact ⟨a,us,rfl,.inr ⟨.inl (.inl (gh _ _ ha)),k _ G H (.refl gh) (.tup ha ra)⟩⟩⟩
def zhF {κ α:Type} [DecidableEq κ] (kvs:List (κ×α)) (k:κ):Option α:=(kvs.find? fun kv=>decide (kv.1=k)).map (·.2)
def zki {κ α:Type} [DecidableEq κ] (kvs:List (κ×α)) (k:κ) (v:α):List (κ×α) :=
 if (kvs.any fun kv=>decide (kv.1=k))=true then kvs.map (fun kv=>if kv.1=k then (kv.1,v) else kv) else kvs++[(k,v)]
theorem zjD {κ:Type} [DecidableEq κ] {K:PySem.W.Frag} {G:Hp} {k:κ}:∀ {us:List (κ×V)} {kvs:List (κ×D)},us.map (·.1)=kvs.map (·.1)->Reps Γ K G (us.map (·.2)) (kvs.map (·.2)) ->
  (zhF kvs k=none/\zkS us k=none)\/∃ d v,zhF kvs k=some d/\zkS us k=some v/\Rep Γ K G v d
 | [],[],_,_=>.inl ⟨rfl,rfl⟩
 | [],_::_,e,_=>by cases e
 | _::_,[],e,_=>by cases e
 | (k1,v)::us,(k2,d)::kvs,e,r=>by
  have e1:k1=k2:=(List.cons.inj e).1
  have e2:us.map (·.1)=kvs.map (·.1):=(List.cons.inj e).2
  subst e1
  have r:Reps Γ K G (v::us.map (·.2)) (d::kvs.map (·.2)):=r
  cases r with
  | cons r1 r2 =>
   by_cases h:k1=k
   ·exact .inr ⟨d,v,by simp [zhF,List.find?_cons,h],zgJ h,r1⟩
   ·have:=zjD (k:=k) e2 r2
    rw [zgK (p:=(k1,v)) h]
    simpa [zhF,List.find?_cons,h] using this
theorem zpJ {κ:Type} [DecidableEq κ] {k:κ} {α β:Type}:∀ {us:List (κ×α)} {kvs:List (κ×β)},us.map (·.1)=kvs.map (·.1)->(us.any fun kv=>decide (kv.1=k))=(kvs.any fun kv=>decide (kv.1=k))
 | [],[],_=>rfl
 | [],_::_,e=>by cases e
 | _::_,[],e=>by cases e
 | (k1,v)::us,(k2,d)::kvs,e=>by
  have e1:k1=k2:=(List.cons.inj e).1
  subst e1
  rw [List.any_cons,List.any_cons,zpJ (us:=us) (kvs:=kvs) (List.cons.inj e).2]
theorem zpI {κ:Type} [DecidableEq κ] {K:PySem.W.Frag} {G:Hp} {k:κ} {v:V} {d:D} (rv:Rep Γ K G v d):∀ {us:List (κ×V)} {kvs:List (κ×D)},us.map (·.1)=kvs.map (·.1)->Reps Γ K G (us.map (·.2)) (kvs.map (·.2)) ->
  (us.map fun kv=>if kv.1=k then (kv.1,v) else kv).map (·.1)=(kvs.map fun kv=>if kv.1=k then (kv.1,d) else kv).map (·.1)/\Reps Γ K G ((us.map fun kv=>if kv.1=k then (kv.1,v) else kv).map (·.2)) ((kvs.map fun kv=>if kv.1=k then (kv.1,d) else kv).map (·.2))
 | [],[],_,_=>⟨rfl,.nil⟩
 | [],_::_,e,_=>by cases e
 | _::_,[],e,_=>by cases e
 | (k1,u)::us,(k2,x)::kvs,e,r=>by
  have e1:k1=k2:=(List.cons.inj e).1
  have e2:us.map (·.1)=kvs.map (·.1):=(List.cons.inj e).2
  subst e1
  have r:Reps Γ K G (u::us.map (·.2)) (x::kvs.map (·.2)):=r
  cases r with
  | cons r1 r2 =>
   obtain ⟨h1,h2⟩:=zpI (k:=k) rv e2 r2
   by_cases h:k1=k
   ·subst h
    simp only [qp,if_true]
    exact ⟨by rw [h1],.cons rv h2⟩
   ·simp only [qp,qV h]
    exact ⟨by rw [h1],.cons r1 h2⟩
theorem znb {κ:Type} [DecidableEq κ] {K:PySem.W.Frag} {G:Hp} {k:κ} {v:V} {d:D} (rv:Rep Γ K G v d) {us:List (κ×V)} {kvs:List (κ×D)} (e:us.map (·.1)=kvs.map (·.1)) (r:Reps Γ K G (us.map (·.2)) (kvs.map (·.2))) :
  (zhK us k v).map (·.1)=(zki kvs k d).map (·.1)/\Reps Γ K G ((zhK us k v).map (·.2)) ((zki kvs k d).map (·.2)):=by
 unfold zhK zki
 rw [zpJ (k:=k) e]
 split
 ·exact zpI rv e r
 ·simp only [List.map_append,qp,qM]
  exact ⟨by rw [e],r.append (.cons rv .nil)⟩
def zo4:D->Option Key
 | .int i=>some (.inl i)
 | .str x=>some (.inr x)
 | _=>none
def zhN:List D->Option (List Key)
 | []=>some []
 | d::r=>(zo4 d).bind fun k=>(zhN r).map (k::·)
theorem zhh {K:PySem.W.Frag} {G:Hp} {v:V} {d:D} {k:Key} (r:Rep Γ K G v d) (h:zo4 d=some k):v=kV k:=by
 unfold zo4 at h
 split at h <;> cases h
 ·exact r.int_inv
 ·exact r.str_inv
theorem zeK {K:PySem.W.Frag} {G:Hp}:∀ {vs:List V} {ds:List D} {ks:List Key},Reps Γ K G vs ds->zhN ds=some ks->vs=ks.map kV
 | _,[],ks,r,h=>by cases r;cases h;rfl
 | _,d::ds,ks,.cons h1 h2,h=>by
  unfold zhN at h
  obtain ⟨k,hk,h⟩:=oBd h
  obtain ⟨zs,hz,rfl⟩:=oMd h
  rw [zhh h1 hk,zeK h2 hz];rfl
def ziG (d k:D):Option (Option D):=match d,k with
 | .dk l,k=>(zo4 k).map (zhF l)
 | .fdk l,k=>(zo4 k).map (zhF l)
 | .dt l,.tup t=>(zhN t).map (zhF l)
 | _,_=>none
theorem zpM {K:PySem.W.Frag} {G H:Hp} {v:V} {d k:D} {r:Option D} (gh:zbV G H) (rv:Rep Γ K G v d) (h:ziG d k=some r):∃ a,v=.ref a/\IsD H a:=by
 unfold ziG at h
 split at h
 ·cases rv with
  | dk h _ _=>exact ⟨_,rfl,.inl ⟨_,.inl (gh _ _ h)⟩⟩
 ·cases rv with
  | fdk h _ _=>exact ⟨_,rfl,.inl ⟨_,.inr ⟨_,gh _ _ h⟩⟩⟩
 ·cases rv with
  | dt h _ _=>exact ⟨_,rfl,.inr ⟨_,.inl (gh _ _ h)⟩⟩
 ·cases h
theorem ziU {K:PySem.W.Frag} {G H:Hp} {v y:V} {d k:D} {r:Option D} (gh:zbV G H) (rv:Rep Γ K G v d) (ry:Rep Γ K G y k) (h:ziG d k=some r) :
  ∃ a o,v=.ref a/\zkM H a y o/\((r=none/\o=none)\/∃ w z,r=some z/\o=some w/\Rep Γ K G w z):=by
 unfold ziG at h
 split at h
 ·obtain ⟨kk,hk,rfl⟩:=oMd h
  cases rv with
  | dk h1 h2 h3 =>
   have ey:=zhh ry hk
   subst ey
   refine ⟨_,_,rfl,zkM.k (gh _ _ h1),?_⟩
   rcases zjD (k:=kk) h2 h3 with ⟨q1,q2⟩ | ⟨z,w,q1,q2,q3⟩
   ·exact .inl ⟨q1,q2⟩
   ·exact .inr ⟨w,z,q1,q2,q3⟩
 ·obtain ⟨kk,hk,rfl⟩:=oMd h
  cases rv with
  | fdk h1 h2 h3 =>
   have ey:=zhh ry hk
   subst ey
   refine ⟨_,_,rfl,.inl ⟨_,kk,.inr ⟨_,gh _ _ h1⟩,rfl,rfl⟩,?_⟩
   rcases zjD (k:=kk) h2 h3 with ⟨q1,q2⟩ | ⟨z,w,q1,q2,q3⟩
   ·exact .inl ⟨q1,q2⟩
   ·exact .inr ⟨w,z,q1,q2,q3⟩
 ·obtain ⟨kk,hk,rfl⟩:=oMd h
  cases rv with
  | dt h1 h2 h3 =>
   obtain ⟨b,ys,rfl,hb,rb⟩:=ry.tup_inv
   have ey:=zeK rb hk
   subst ey
   refine ⟨_,_,rfl,zkM.t (gh _ _ h1) (gh _ _ hb),?_⟩
   rcases zjD (k:=kk) h2 h3 with ⟨q1,q2⟩ | ⟨z,w,q1,q2,q3⟩
   ·exact .inl ⟨q1,q2⟩
   ·exact .inr ⟨w,z,q1,q2,q3⟩
 ·cases h
def zbw (d k:D):Option D:=(ziG d k).bind id
theorem zbU (hu:X.A.units+66 < cLine) (ho:DE Γ X o fo) (hi:DE Γ X i fi') (hs:zuV i:=by intro _ _;rfl):DE Γ X (.Subscript o i pos) (b2 zbw fo fi'):=⟨(zqK (by omega) ho.1 hi.1 hs).imp fun σ H Q=>by
 rintro ⟨G₀,H₀,G,ρ,d,A,h,k⟩
 unfold b2 at h
 obtain ⟨x,hx,h⟩:=oBd h
 obtain ⟨y,hy,h⟩:=oBd h
 refine ⟨G₀,H₀,G,ρ,x,A,hx,fun v G1 H1 s1 r1=>⟨G₀,H₀,G1,ρ,y,A.step s1,hy,fun u G2 H2 s2 r2=>?_⟩⟩
 unfold zbw at h
 obtain ⟨r,hr,h⟩:=oBd h
 obtain ⟨a,ov,rfl,hg,hc⟩:=ziU s2.gh (r1.mono s2.gg) r2 hr
 rcases hc with ⟨rfl,_⟩ | ⟨w,z,rfl,rfl,rw'⟩
 ·cases h
 ·cases h
  exact ⟨a,w,rfl,hg,k w G2 H2 (s1.trans s2) rw'⟩⟩
def znC (d k:D):Option D:=(ziG d k).map fun r=>r.getD .non
theorem zpb (hu:X.A.units+66 < cLine) (ho:DE Γ X o fo) (he:DE Γ X e f) (m:M1 X o "get" apos e cpos:=by exact ⟨rfl,rfl,rfl,rfl⟩):DE Γ X (.Call (.Attribute o "get" apos) [e] [] cpos) (b2 znC fo f):=⟨(zoB (by omega) ho.1 he.1 m).imp fun σ H Q=>by
 rintro ⟨G₀,H₀,G,ρ,d,A,h,k⟩
 unfold b2 at h
 obtain ⟨x,hx,h⟩:=oBd h
 obtain ⟨y,hy,h⟩:=oBd h
 unfold znC at h
 obtain ⟨r,hr,rfl⟩:=oMd h
 refine ⟨G₀,H₀,G,ρ,x,A,hx,fun v G1 H1 s1 r1=>?_⟩
 obtain ⟨a0,e0,d0⟩:=zpM s1.gh r1 hr
 refine ⟨a0,e0,d0,G₀,H₀,G1,ρ,y,A.step s1,hy,fun u G2 H2 s2 r2=>?_⟩
 obtain ⟨a,ov,e1,hg,hc⟩:=ziU s2.gh (r1.mono s2.gg) r2 hr
 subst e0
 cases e1
 rcases hc with ⟨rfl,rfl⟩ | ⟨w,z,rfl,rfl,rw'⟩
 ·exact ⟨none,hg,k _ G2 H2 (s1.trans s2) .non⟩
 ·exact ⟨some w,hg,k w G2 H2 (s1.trans s2) rw'⟩⟩
def znB (d k x:D):Option D:=(ziG d k).map fun r=>r.getD x
def b3 (g:D->D->D->Option D) (fa fb fc:FE):FE:=fun ρ=>(fa ρ).bind fun x=>(fb ρ).bind fun y=>(fc ρ).bind fun z=>g x y z
theorem zpa (hu:X.A.units+66 < cLine) (ho:DE Γ X o fo) (he:DE Γ X e f) (hf:DE Γ X c fc) (m:M2 X o "get" apos e c cpos:=by exact ⟨rfl,rfl,rfl,rfl⟩):DE Γ X (.Call (.Attribute o "get" apos) [e,c] [] cpos) (b3 znB fo f fc):=⟨(zoA (by omega) ho.1 he.1 hf.1 m).imp fun σ H Q=>by
 rintro ⟨G₀,H₀,G,ρ,d,A,h,k⟩
 unfold b3 at h
 obtain ⟨x,hx,h⟩:=oBd h
 obtain ⟨y,hy,h⟩:=oBd h
 obtain ⟨z,hz,h⟩:=oBd h
 unfold znB at h
 obtain ⟨r,hr,rfl⟩:=oMd h
 refine ⟨G₀,H₀,G,ρ,x,A,hx,fun v G1 H1 s1 r1=>?_⟩
 obtain ⟨a0,e0,d0⟩:=zpM s1.gh r1 hr
 refine ⟨a0,e0,d0,G₀,H₀,G1,ρ,y,A.step s1,hy,fun u G2 H2 s2 r2=>⟨G₀,H₀,G2,ρ,z,(A.step s1).step s2,hz,fun w3 G3 H3 s3 r3=>?_⟩⟩
 obtain ⟨a,ov,e1,hg,hc⟩:=ziU s3.gh (r1.mono (s2.gg.trans s3.gg)) (r2.mono s3.gg) hr
 subst e0
 cases e1
 rcases hc with ⟨rfl,rfl⟩ | ⟨w,z,rfl,rfl,rw'⟩
 ·exact ⟨none,hg,k _ G3 H3 ((s1.trans s2).trans s3) r3⟩
 ·exact ⟨some w,hg,k w G3 H3 ((s1.trans s2).trans s3) rw'⟩⟩
def zo3 (k d:D):Option D:=(ziG d k).map fun r=>.bl (!r.isSome)
def zvI (Γ:Cn) (K:PySem.W.Frag) (neg:Bool):R2:=fun y x H Q=>∃ G k d r,zbV G H/\Rep Γ K G y k/\Rep Γ K G x d/\ziG d k=some r/\Q (.bl (if neg then !r.isSome else r.isSome)) H
theorem zqS (hu:X.A.units+66 < cLine):OpR X (compareOp .NotIn) (zvI Γ X.K true):=by
 intro pins s σ H x y v u Q I rx ry h
 obtain ⟨G,kd,d,r,gh,r1,r2,hr,q⟩:=h
 obtain ⟨a,ov,rfl,hg,hc⟩:=ziU gh r2 r1 hr
 cases ry
 have e:ov.isSome=r.isSome:=by rcases hc with ⟨rfl,rfl⟩ | ⟨w,z,rfl,rfl,_⟩ <;> rfl
 exact zrD (by omega) I hg rx fun s3 I3=>⟨.bl _,H,I3,rfl,by rw [e];exact q⟩
theorem zrH (hu:X.A.units+66 < cLine):CmpD Γ X .NotIn zo3:=⟨_,zqS (Γ:=Γ) hu,fun {G H v u x y z} gh r1 r2 h Q k=>by
 unfold zo3 at h
 obtain ⟨r,hr,rfl⟩:=oMd h
 exact ⟨G,x,y,r,gh,r1,r2,hr,k _ G H (.refl gh) (.bl _)⟩⟩
def sNo:FS:=fun _=>none
theorem ziR {st:Stmt}:DS Γ X st sNo:=⟨fun pins s σ H E I q=>by
 obtain ⟨G₀,H₀,G,ρ,fl,ρ',A,h,k⟩:=q
 cases h⟩
end
end L2
end
section
namespace L2
open PySem PySem.Spec PyProof.Rows
section
variable {Γ:Cn} {X:Cx} {a b c e o i:Expr} {es:List Expr} {fa fb fc f fo fk fx:FE} {fr fi:FA} {pos p apos cpos:Pos} {ft:FT} {g:FS} {x:Str}
theorem Reps.strs {K:PySem.W.Frag} {G:Hp}:∀ (ns:List Str),Reps Γ K G (ns.map V.str) (ns.map D.str)
 | []=>.nil
 | n::r=>.cons (.str n) (Reps.strs r)
end
end L2
end
section
namespace L2
open PySem PySem.Spec PyProof.Rows
section
variable {Γ:Cn} {X:Cx} {a b c e o i:Expr} {es:List Expr} {fa fb fc f fo fk fx:FE} {fr fi:FA} {pos p apos cpos:Pos} {ft:FT} {g:FS} {x:Str}
def zvq:D->Option Str
 | .str x=>if x.length<=sizeLine then some x else none
 | .int i=>if i.natAbs.log2 < 1920 then some (toString i) else none
 | _=>none
def zvk:Str->List D->Option Str
 | acc,[]=>if acc.length<=sizeLine then some acc else none
 | acc,d::r=>(zvq d).bind fun y=>if (acc++y).length<=sizeLine then zvk (acc++y) r else none
structure DJ (Γ:Cn) (X:Cx) (es:List Expr) (fr:FA):Prop where
 out:∀ (acc:Str) (pins:List (Addr×Obj)) (s:Shared) (σ:St) (H:Hp) (Q:VK),Inv X pins σ H s->(∃ G₀ H₀ G ρ ds z,At Γ X.K G₀ H₀ G H ρ σ/\fr ρ=some ds/\zvk acc ds=some z/\∀ G' H',Step G H G' H'->Q (.str z) H') ->
  wpAny (model X.prog X.w) X.A (joinParts acc (evalEach es X.env)) (EP X pins σ Q) X.xe s
end
end L2
end
section
namespace L2
open PySem PySem.Spec PyProof.Rows
section
variable {X:Cx} {pins:List (Addr×Obj)} {σ:St} {H H':Hp} {s:Shared} {h':Heap}
theorem zcn.there {P:Program} {w:World} {h:Heap} {a:Addr} {o:HO} (x:zcn P w H h a o):∃ u,h.get? a=some u:=by
 cases o with
 | lst xs=>obtain ⟨_,_,_,_,e⟩:=x;exact ⟨_,e⟩
 | tup xs=>obtain ⟨_,_,_,p,e,_⟩:=x;exact ⟨_,e⟩
 | dK kvs=>obtain ⟨_,_,_,_,o,_,_,e,_⟩:=x;exact ⟨_,e⟩
 | dT kvs=>obtain ⟨_,_,_,_,o,_,_,e,_⟩:=x;exact ⟨_,e⟩
 | set S n=>obtain ⟨o,_,_,_,e,_⟩:=x;exact ⟨_,e⟩
 | ins C dx fs=>obtain ⟨_,_,_,e,_⟩:=x;exact ⟨_,e⟩
 | own y=>obtain ⟨_,e⟩:=x;exact ⟨_,e⟩
 | xd fs=>obtain ⟨_,⟨_,_,_,e,_⟩,_⟩:=x;exact ⟨_,e⟩
 | rng lo hi=>obtain ⟨_,_,_,e⟩:=x;exact ⟨_,e⟩
 | frz ob u=>obtain ⟨e,_⟩:=x;exact ⟨_,e⟩
 | tbl ps=>exact ⟨_,(show h.get? a=some _ from x)⟩
 | met f y=>exact ⟨_,(show h.get? a=some _ from x)⟩
 | ext φ=>obtain ⟨_,⟨_,e⟩,_⟩:=x;exact ⟨_,e⟩
theorem Inv.none_of (I:Inv X pins σ H s) {a:Addr} (h:∀ u,s.heap.get? a=some u->False):H a=none:=by
 cases e:H a with
 | none=>rfl
 | some o =>
  obtain ⟨u,hu⟩:=(I.hok a o e).there
  exact (h u hu).elim
theorem Inv.many {t':Nat} (I:Inv X pins σ H s) (k:∀ b u,s.heap.get? b=some u->h'.get? b=some u) (hs:zbV H H') (new:∀ b o,H b=none->H' b=some o->(∀ u,s.heap.get? b=some u->False)/\zcn X.prog X.w H' h' b o) :
  Inv X pins σ H' { s with heap:=h',toks:=t' }:=by
 refine I.un ⟨fun b ob q _ _ _=>k b ob q,fun b ob q _ _ _=>⟨ob.slots,k b ob q⟩,fun b ob q n _=>?_,fun b ob q _=>⟨ob,k b ob q⟩,fun b xs q=>hs _ _ q,fun b o u q=>hs _ _ q,fun b ps q=>⟨#[],by rw [hs _ _ q];simp⟩⟩ fun b o q=>?_
 ·cases e:H' b with
  | none=>rfl
  | some o=>exact ((new b o n e).1 ob q).elim
 ·cases e:H b with
  | none=>exact (new b o e q).2
  | some o' =>
   have:=hs _ _ e
   rw [q] at this
   cases this
   exact (I.hok b o e).stay (fun c v _ r=>k c v r) (fun c r=>hs _ _ r) fun c xs r=>hs _ _ r
end
section
variable {Γ:Cn} {X:Cx} {a b c e o i:Expr} {es:List Expr} {fa fb fc f fo fk fx:FE} {fr fi:FA} {pos p p2 p3 p4 apos cpos:Pos} {ft:FT} {g:FS} {x:Str}
def zks (kb:List (Key×D)):List (Key×D)->Option Bool
 | []=>some true
 | (k,v)::r=>match zhF kb k with
  | none=>some false
  | some y=>(eqX v y).bind fun e=>(zks kb r).map (e && ·)
def ztA:D->D->Option Bool
 | .dk ka,.dk kb=>if ka.length=kb.length then zks kb ka else some false
 | _,_=>none
def znK (x y:D):Option D:=(ztA x y).map fun b=>D.bl (!b)
theorem znk {pins:List (Addr×Obj)} {σ:St} {G H:Hp} {s:Shared} {A:Around} (I:Inv X pins σ H s) (gh:zbV G H) (hu:A.in1.units+64 < cLine) {ub:List (Key×V)} {kb:List (Key×D)} {vb:List (Key×Value)} (eb:ub.map (·.1)=kb.map (·.1)) (rb:Reps Γ X.K G (ub.map (·.2)) (kb.map (·.2))) (qb:KV ub vb) :
  ∀ {ua:List (Key×V)} {ka:List (Key×D)} {va:List (Key×Value)} {r:Bool},ua.map (·.1)=ka.map (·.1)->Reps Γ X.K G (ua.map (·.2)) (ka.map (·.2))->KV ua va->zks kb ka=some r->PySem.W.KeqHits A.in1 s vb va r
 | [],[],va,r,_,_,qa,h=>by cases qa;cases h;exact .nil
 | [],_::_,_,_,e,_,_,_=>by cases e
 | _::_,[],_,_,e,_,_,_=>by cases e
 | (k1,v)::ua,(k2,d)::ka,va,r,e,rr,qa,h=>by
  have e1:k1=k2:=(List.cons.inj e).1
  have e2:ua.map (·.1)=ka.map (·.1):=(List.cons.inj e).2
  subst e1
  have rr:Reps Γ X.K G (v::ua.map (·.2)) (d::ka.map (·.2)):=rr
  cases rr with
  | cons r1 r2 =>
   cases qa with
   | cons q1 q2 =>
    rename_i w va
    obtain ⟨kw,vw⟩:=w
    obtain ⟨z1,z2⟩:=q1
    replace z1:k1=kw:=z1
    subst z1
    have rv:=qb.val k1
    unfold zks at h
    rcases zjD (k:=k1) eb rb with ⟨n1,n2⟩ | ⟨y,u,n1,n2,n3⟩
    ·rw [n1] at h
     cases h
     rw [n2] at rv
     exact .miss (zim.none_of rv)
    ·rw [n1] at h
     obtain ⟨e,he,h⟩:=oBd h
     obtain ⟨b,hb,rfl⟩:=oMd h
     rw [n2] at rv
     obtain ⟨u',hu',ru'⟩:=zim.some_of rv
     obtain ⟨p,q,hp,hq,s1,s2,rfl⟩:=ziQ he
     obtain ⟨as,a1⟩:=r1.reads I gh z2 hp
     obtain ⟨bs,a2⟩:=n3.reads I gh ru' hq
     exact .hit hu' (PySem.W.keq_at a1 a2 s1 s2 hu) (znk I gh hu eb rb qb e2 r2 q2 hb)
def rDq (Γ:Cn) (K:PySem.W.Frag) (neg:Bool):R2:=fun x y H Q=>∃ G d e b,zbV G H/\Rep Γ K G x d/\Rep Γ K G y e/\ztA d e=some b/\Q (.bl (if neg then !b else b)) H
theorem zlq {pins:List (Addr×Obj)} {σ:St} {G H:Hp} {s:Shared} {v u:V} {d e:D} {b:Bool} (I:Inv X pins σ H s) (gh:zbV G H) (hu:X.A.units+66 < cLine) (r1:Rep Γ X.K G v d) (r2:Rep Γ X.K G u e) (h:ztA d e=some b) :
  ∃ p q va vb r,v=.ref p/\u=.ref q/\(p==sysModules)=false/\(q==sysModules)=false/\s.heap.DictOf (zaM X.prog X.w) p va/\s.heap.DictOf (zaM X.prog X.w) q vb/\(va.length=vb.length->PySem.W.KeqHits X.A.in1 s vb va r)/\b=(va.length==vb.length && r):=by
 unfold ztA at h
 split at h
 ·rename_i ka kb
  cases r1 with
  | dk h1 h2 h3 =>
   cases r2 with
   | dk k1 k2 k3 =>
    obtain ⟨_,m1,va,qa,da⟩:=zkv I.hok (gh _ _ h1)
    obtain ⟨_,m2,vb,qb,db⟩:=zkv I.hok (gh _ _ k1)
    have la:va.length=ka.length:=by rw [← qa.length];simpa using congrArg List.length h2
    have lb:vb.length=kb.length:=by rw [← qb.length];simpa using congrArg List.length k2
    have hu1:X.A.in1.units+64 < cLine:=by
     have:X.A.in1.units=X.A.units+1:=rfl
     omega
    split at h
    ·rename_i hl
     exact ⟨_,_,va,vb,b,rfl,rfl,m1,m2,da,db,fun _=>znk I gh hu1 k2 k3 qb h2 h3 qa h,by rw [la,lb,hl];simp⟩
    ·rename_i hl
     cases h
     refine ⟨_,_,va,vb,false,rfl,rfl,m1,m2,da,db,fun q=>absurd (la.symm.trans (q.trans lb)) hl,by simp⟩
 ·cases h
theorem zvc (hu:X.A.units+66 < cLine):OpR X (compareOp .Eq) (rDq Γ X.K false):=by
 intro pins s σ H x y v u Q I rx ry h
 obtain ⟨G,d,e,b,gh,r1,r2,hb,q⟩:=h
 obtain ⟨pa,pb,va,vb,r,rfl,rfl,m1,m2,da,db,ht,rfl⟩:=zlq I gh hu r1 r2 hb
 cases rx
 cases ry
 exact PySem.W.keq_eq m1 m2 da db (by omega) ht ⟨.bl _,H,I,rfl,q⟩
theorem zs4 (hu:X.A.units+66 < cLine):OpR X (compareOp .NotEq) (rDq Γ X.K true):=by
 intro pins s σ H x y v u Q I rx ry h
 obtain ⟨G,d,e,b,gh,r1,r2,hb,q⟩:=h
 obtain ⟨pa,pb,va,vb,r,rfl,rfl,m1,m2,da,db,ht,rfl⟩:=zlq I gh hu r1 r2 hb
 cases rx
 cases ry
 exact PySem.W.keq_ne m1 m2 da db (by omega) ht ⟨.bl _,H,I,rfl,q⟩
theorem zpZ (hu:X.A.units+66 < cLine):CmpD Γ X .NotEq znK:=⟨_,zs4 (Γ:=Γ) hu,fun {G H v u x y z} gh r1 r2 h Q k=>by
 unfold znK at h
 obtain ⟨b,hb,rfl⟩:=oMd h
 exact ⟨G,x,y,b,gh,r1,r2,hb,k _ G H (.refl gh) (.bl _)⟩⟩
def leS (x y:Str):Bool:=!ltS y x
def zis (l:List Str):List Str:=l.mergeSort leS
theorem zfg {x y:Str}:leS x y=true↔x.cps.toList<=y.cps.toList:=by
 unfold leS ltS
 rw [Bool.not_eq_true',decide_eq_false_iff_not,List.not_lt]
theorem zjC (x y z:Str) (h1:leS x y=true) (h2:leS y z=true):leS x z=true:=zfg.mpr (List.le_trans (zfg.mp h1) (zfg.mp h2))
theorem zna (x y:Str):(leS x y || leS y x)=true:=by
 rw [Bool.or_eq_true]
 exact (List.le_total x.cps.toList y.cps.toList).imp zfg.mpr zfg.mpr
theorem zoO {x y:Str} (h1:leS x y=true) (h2:leS y x=true):x=y:=by
 have e:=List.le_antisymm (zfg.mp h1) (zfg.mp h2)
 cases x;cases y
 simp only at e
 rw [Array.toList_inj.mp e]
theorem zg0:∀ (l:List Str) (p:Str),risingS p l=true->(∀ a∈l,leS p a=true)/\l.Pairwise fun a b=>leS a b=true
 | [],_,_=>⟨fun _ h=>(nomatch h),List.Pairwise.nil⟩
 | x::r,p,h=>by
  unfold risingS at h
  rw [Bool.and_eq_true,ltCps_eq] at h
  obtain ⟨h1,h2⟩:=zg0 r x h.2
  have hp:leS p x=true:=h.1
  refine ⟨fun a ha=>?_,.cons h1 h2⟩
  rcases List.mem_cons.mp ha with rfl | ha
  ·exact hp
  ·exact zjC _ _ _ hp (h1 a ha)
theorem zmm {l:List Str} (h:sortedS l=true):l.Pairwise fun a b=>leS a b=true:=by
 cases l with
 | nil=>exact .nil
 | cons x r=>exact .cons (zg0 r x h).1 (zg0 r x h).2
theorem zlC {l l':List Str} (hp:l'.Perm l) (hs:sortedS l'=true):l'=zis l :=
 List.Perm.eq_of_pairwise (le:=fun a b=>leS a b=true) (fun a b _ _ h1 h2=>zoO h1 h2) (zmm hs) (List.pairwise_mergeSort zjC zna l) (hp.trans (List.mergeSort_perm l leS).symm)
def ze2:List (Key×D)->Option (List Str)
 | []=>some []
 | (.inr x,_)::r=>(ze2 r).map (x::·)
 | (.inl _,_)::_=>none
theorem zh2:∀ {kvs:List (Key×D)} {us:List (Key×V)} {ss:List Str},us.map (·.1)=kvs.map (·.1)->ze2 kvs=some ss->us.map (·.1)=ss.map Sum.inr
 | [],[],ss,_,h=>by cases h;rfl
 | [],_::_,_,e,_=>by cases e
 | _::_,[],_,e,_=>by cases e
 | (k,d)::kvs,(k',v)::us,ss,e,h=>by
  have e1:k'=k:=(List.cons.inj e).1
  have e2:us.map (·.1)=kvs.map (·.1):=(List.cons.inj e).2
  subst e1
  cases k' with
  | inl i=>cases h
  | inr x =>
   obtain ⟨zs,hz,rfl⟩:=oMd (show (ze2 kvs).map (x::·)=some ss from h)
   rw [qp,qp,zh2 e2 hz]
def zec:List D->Option D
 | [.dk kvs]=>(ze2 kvs).bind fun ss=>if ss.length < 64 then some (.lst ((zis ss).map D.str)) else none
 | _=>none
theorem zml {P:Program} {w:World}:∀ {ss:List Str} {vs:List Value} {va:List (Key×Value)},va.map (·.1)=ss.map Sum.inr->vs.length=ss.length->(∀ (j:Nat) (v:Value),vs[j]?=some v->∃ k x,va[j]?=some (k,x)/\(zaM P w).is k v=true)->StrsAre vs ss
 | [],[],_,_,_,_=>.nil
 | [],_::_,_,_,h,_=>by cases h
 | _::_,[],_,_,h,_=>by cases h
 | s::ss,v::vs,va,e,hl,h=>by
  obtain ⟨k,x,h1,h2⟩:=h 0 v rfl
  cases va with
  | nil=>cases e
  | cons w va =>
   cases h1
   have e1:k=Sum.inr s:=(List.cons.inj e).1
   subst e1
   obtain ⟨t,rfl⟩:=Value.isStrOf_shape (x:=s) (v:=v) h2
   exact .cons s t (zml (va:=va) (List.cons.inj e).2 (by simpa using hl) fun j u hu=>by
    obtain ⟨k,x,q1,q2⟩:=h (j+1) u (by simpa using hu)
    exact ⟨k,x,by simpa using q1,q2⟩)
theorem zgg:∀ {vs:List Value} {ss:List Str},StrsAre vs ss->zbS (ss.map V.str) vs
 | _,_,.nil=>.nil
 | _,_,.cons x t r=>.cons ⟨t,rfl⟩ (zgg r)
theorem zjP (hc:X.calm=true):zdJ X (.builtin "sorted") (fun xs H Q=>∃ (a:Addr) (us:List (Key×V)) (ss:List Str),xs=[.ref a]/\H a=some (.dK us)/\us.map (·.1)=ss.map Sum.inr/\ss.length < 64/\∀ p,H p=none->Q (.ref p) (upd H p (.lst ((zis ss).map V.str)))):=by
 intro pins s σ H xs us Q I r h
 obtain ⟨a,ks,ss,rfl,ha,hk,h64,q⟩:=h
 obtain ⟨u,rfl,ru⟩:=zeb r
 cases ru
 obtain ⟨z,md,va,qa,da⟩:=zkv I.hok ha
 obtain ⟨ep,hat⟩:=da.dictAt
 have hva:va.map (·.1)=ss.map Sum.inr:=qa.keys.symm.trans hk
 have hlen:va.length=ss.length:=by simpa using congrArg List.length hva
 have hh:X.A.handled=none:=I.ok.hd hc
 have hsl:=sizeLine_eq
 refine Calls.call_function_entry kind_sorted plain_sorted entry_sorted (args_sorted1 _) ?_
 unfold Builtin.«sorted»
 refine qx (m:=checkCount "sorted" 1 1 _) (qz ?_)
 refine qx (PySem.W.kdu_collect (A:=X.A.in1) (PySem.W.kdl_dict (knd:=zaM X.prog X.w) (kvs:=va) (ep:=ep) md) hh hat (by omega) fun h' tk acc hkp hacc=>?_)
 have hl:acc.toList.length=va.length:=by rw [Array.length_toList];exact hacc.1
 refine qx (wpAny_newList ?_ (by rw [hl];omega))
 have hS:StrsAre acc.toList ss:=zml (P:=X.prog) (w:=X.w) hva (by rw [hl,hlen]) fun j v e=>hacc.2 j v (by rw [← Array.getElem?_toList];exact e)
 have hoL:(h'.push (seqObj "list" acc.toList.toArray 0)).get? h'.objs.size=some (seqObj "list" acc.toList.toArray 0):=qF _ rfl
 refine qx (wpAny_holding (wpAny_call_entry slot_list_sort ⟨_,hoL,rfl⟩ entry_list_sort (list_sort_treeK strKind_oneLt hoL hS.keysOf (fun v₁ v₂ zgL e=>keyKind_strs (by rw [← e];exact hS)) (by rw [hl];omega) fun st' a1 a2=>⟨_,rfl,?_⟩) (args_list_sort _)))
 obtain ⟨ss',h1,h2,h3⟩:=sorted_out_str hS a1 a2
 have es:=zlC h2 h3
 subst es
 refine qz ⟨_,rfl,?_⟩
 obtain ⟨ee,he⟩:=sortedHeap_at (h:=h'.push (seqObj "list" acc.toList.toArray 0)) (out:=(arrOf st').map (·.2)) hoL
 have hls:(zis ss).length=ss.length:=(List.mergeSort_perm ss leS).length_eq
 have hno:∀ u,s.heap.get? h'.objs.size=some u->False:=fun u e=>Nat.lt_irrefl _ (qv (hkp _ _ e))
 have hn:=I.none_of hno
 refine ⟨.ref h'.objs.size,upd H h'.objs.size (.lst ((zis ss).map V.str)),I.many (t':=tk) (fun b o e=>?_) (fun b o e=>by rw [zap (zan e hn)];exact e) (fun b o e1 e2=>?_),rfl,q _ hn⟩
 ·have hb:b < h'.objs.size:=qv (hkp b o e)
  rw [sortedHeap_old (qB hb) (by rw [size_push'];exact Nat.lt_succ_of_lt hb)]
  exact qu _ (hkp b o e)
 ·by_cases hb:b=h'.objs.size
  ·subst hb
   rw [zav] at e2
   cases e2
   exact ⟨hno,by rw [qg,hls];omega,_,ee,zgg h1,by rw [Array.toArray_toList];exact he⟩
  ·rw [zap hb,e1] at e2
   cases e2
theorem znY (hc:X.calm=true):BltD Γ X "sorted" zec:=⟨_,zjP hc,fun {G H vs ds z} gh r h Q k=>by
 unfold zec at h
 split at h
 ·obtain ⟨ss,hs,h⟩:=oBd h
  split at h
  ·rename_i h64
   cases h
   obtain ⟨v,rfl,r1⟩:=r.one
   cases r1 with
   | dk h1 h2 h3=>exact ⟨_,_,ss,rfl,gh _ _ h1,zh2 h2 hs,h64,zdW gh (Reps.strs _) k⟩
  ·cases h
 ·cases h⟩
end
end L2
end
section
namespace L2
open PySem PySem.Spec PyProof.Rows
section
variable {α β:Type} [DecidableEq α]
end
section
variable {Γ:Cn} {X:Cx} {a b c e o i:Expr} {es:List Expr} {fa fb fc f fo fk fx:FE} {fr fi:FA} {pos p p2 p3 p4 apos cpos:Pos} {ft:FT} {g:FS} {x:Str}
theorem zmX {P:Program} {w:World} {k:Key} {u:Value} (h:(zaM P w).is k u=true):zca (kV k) u:=by
 rcases zbE (k:=k) (v:=u) h with ⟨i,t,rfl,rfl⟩ | ⟨x,t,rfl,rfl⟩
 ·exact ⟨t,rfl⟩
 ·exact ⟨t,rfl⟩
theorem zmx {K:PySem.W.Frag} {G:Hp} (k:Key):Rep Γ K G (kV k) (zoR k):=by
 cases k with
 | inl i=>exact .int i
 | inr x=>exact .str x
def zr4:D->Option D
 | .lst l=>some (.lst l.reverse)
 | _=>none
theorem Reps.reverse {K:PySem.W.Frag} {G:Hp}:∀ {vs:List V} {ds:List D},Reps Γ K G vs ds->Reps Γ K G vs.reverse ds.reverse
 | _,_,.nil=>.nil
 | _,_,.cons h r=>by
  rw [List.reverse_cons,List.reverse_cons]
  exact r.reverse.append (.cons h .nil)
theorem ztB {j} (he:DE Γ X e f):DE Γ X (.Subscript e (.Slice none none (some (.UnaryOp .USub (.Constant (.int 1) j p3) p4)) p2) pos) (b1 zr4 f):=⟨fun pins s σ H Q I=>by
 rintro ⟨G₀,H₀,G,ρ,d,A,h,k⟩
 unfold b1 at h
 obtain ⟨x,hx,h⟩:=oBd h
 unfold zr4 at h
 split at h
 ·rename_i l
  cases h
  refine Subscript_ (thn (he.1 pins s σ H (fun v H'=>∃ G',Step G H G' H'/\Rep Γ X.K G' v (.lst l)) I ⟨G₀,H₀,G,ρ,_,A,hx,fun v G' H' st r=>⟨G',st,r⟩⟩) fun v s1 ⟨v',H1,I1,r1,G1,st,rp⟩=>?_)
  obtain ⟨a,vs,rfl,ha,rv⟩:=rp.lst_inv
  cases r1
  refine wpAny_Slice (qz (qz ?_))
  refine thn ((zun zsg zmG) pins s1 σ H1 (fun v H'=>v=.int (-1)/\H'=H1) I1 ⟨_,rfl,rfl,rfl⟩) fun vk s3 ⟨vv,H3,I3,r3,e1,e2⟩=>?_
  subst e1 e2
  obtain ⟨t,rfl⟩:=r3
  have I4:Inv X pins σ H3 { s3 with heap:=s3.heap.push { cls:=.type "slice",data:=.fields #[.none,.none,.int (-1) t] } }:=I3.kept (t':=s3.toks) fun b ob q=>qu _ q
  obtain ⟨its,rr,hti,hz⟩:=I4.list (.inl (.inl (st.gh _ _ ha)))
  show wpAny (model X.prog X.w) X.A (subscriptTail e (.Slice none none (some (.UnaryOp .USub (.Constant (.int 1) j p3) p4)) p2) (.ref a) (.ref s3.heap.objs.size)) (EP X pins σ Q) X.xe { s3 with heap:=s3.heap.push { cls:=.type "slice",data:=.fields #[.none,.none,.int (-1) t] } }
  refine tail_any (ops:=[.ref a,.ref s3.heap.objs.size]) hti.isList.typeIs slot_list_getitem.lookup ?_ (by with_unfolding_all rfl)
  refine wpAny_getItem_list_slice hti.isList (Heap.IsSliceOf.new ..) .none .none (.int _ _) (by decide) ?_ (by rw [qA];have:=rr.length;omega)
  rw [PySem.W.krv_pick]
  have hn:=I4.fresh
  exact ⟨.ref _,_,I4.lnew (ys:=vs.reverse) (its:=its.reverse) (t':=s3.toks) (zbS.reverse rr) (by rw [List.length_reverse];exact hz),rfl,zdW st.gh rv.reverse (fun w G2 H2 s2 r2=>k w G2 H2 (st.trans s2) r2) _ hn⟩
 ·cases h⟩
end
end L2
end
section
namespace L2
open PySem PySem.Spec PyProof.Rows
structure CF (Γ:Cn) (K:PySem.W.Frag) (c:Str) (attrs:List Str):Prop where
 ex:∃ C,Γ.cls c=some C/\Cls K C/\∀ f∈attrs,zeY K C f
section
variable {Γ:Cn} {X:Cx} {a b c e o i value:Expr} {es:List Expr} {fa fb fc f fo fk fx fv:FE} {fr fi:FA} {pos pos' p apos cpos:Pos} {ft:FT} {g:FS} {x cl fl n m:Str} {attrs:List Str}
theorem zcS {K:PySem.W.Frag} {G:Hp} {k:Str}:∀ {us:List (Str×V)} {fs:List (Str×D)},us.map (·.1)=fs.map (·.1)->Reps Γ K G (us.map (·.2)) (fs.map (·.2)) ->
  (fs.lookup k=none/\us.lookup k=none)\/∃ d v,fs.lookup k=some d/\us.lookup k=some v/\Rep Γ K G v d
 | [],[],_,_=>.inl ⟨rfl,rfl⟩
 | [],_::_,e,_=>by cases e
 | _::_,[],e,_=>by cases e
 | (k1,v)::us,(k2,d)::fs,e,r=>by
  have e1:k1=k2:=(List.cons.inj e).1
  have e2:us.map (·.1)=fs.map (·.1):=(List.cons.inj e).2
  subst e1
  have r:Reps Γ K G (v::us.map (·.2)) (d::fs.map (·.2)):=r
  cases r with
  | cons r1 r2 =>
   by_cases h:k=k1
   ·subst h
    exact .inr ⟨d,v,by simp [List.lookup],by simp [List.lookup],r1⟩
   ·have hb:(k==k1)=false:=by simpa using h
    have:=zcS (k:=k) e2 r2
    simpa [List.lookup,hb] using this
theorem ziA {f:Str} {v:V}:∀ {fs:List (Str×V)},fs.lookup f=none->zjg f v fs=fs++[(f,v)]
 | [],_=>rfl
 | (g,x)::r,h=>by
  by_cases e:f=g
  ·subst e;simp [List.lookup] at h
  ·have hb:(f==g)=false:=by simpa using e
   rw [zjg,qV (fun z=>e z.symm),ziA (by simpa [List.lookup,hb] using h)]
   rfl
def zvi (c f:Str):D->Option D
 | .ins c' fs=>if c'=c then fs.lookup f else none
 | _=>none
def zlm (c f:Str) (fo:FE):FE:=fun ρ=>(fo ρ).bind (zvi c f)
theorem zeV (hc:CF Γ X.K cl attrs) (hf:fl∈attrs) (ho:DE Γ X o fo) (hb:attributeBase o fl X.env (eval o X.env)=eval o X.env:=by rfl):DE Γ X (.Attribute o fl pos) (zlm cl fl fo):=⟨(zpD ho.1 hb).imp fun σ H Q=>by
 rintro ⟨G₀,H₀,G,ρ,d,A,h,k⟩
 unfold zlm at h
 obtain ⟨x,hx,hq⟩:=oBd h
 clear h
 refine ⟨G₀,H₀,G,ρ,x,A,hx,fun v G1 H1 s1 r1=>?_⟩
 unfold zvi at hq
 split at hq
 ·split at hq
  ·rename_i ec
   subst ec
   obtain ⟨C,q1,q2,q3⟩:=hc.ex
   cases r1 with
   | ins h1 h2 h3 h4 =>
    rw [q1] at h2
    cases h2
    rcases zcS (k:=fl) h3 h4 with ⟨z1,_⟩ | ⟨d',v',z1,z2,z3⟩
    ·rw [z1] at hq;cases hq
    ·rw [z1] at hq
     cases hq
     exact ⟨_,C,_,_,v',rfl,s1.gh _ _ h1,q2,q3 fl hf,z2,k v' G1 H1 s1 z3⟩
  ·cases hq
 ·cases hq⟩
def zmp (f:Str):Slot->Option D
 | .obj _ fs=>fs.lookup f
 | .objd _ fs n _=>if f=n then none else fs.lookup f
 | _=>none
def zqf:Slot->Option Str
 | .obj c _=>some c
 | .objd c _ _ _=>some c
 | _=>none
def zhL (c f:Str) (i:Nat):FE:=fun ρ=>match ρ[i]? with
 | some (some s)=>if zqf s=some c then zmp f s else none
 | _=>none
theorem zoL {vs:List (Str×V)} {n f:Str} {v w:V} (h:vs.lookup f=some v):(vs++[(n,w)]).lookup f=some v:=by
 induction vs with
 | nil=>cases h
 | cons p r ih =>
  obtain ⟨g,x⟩:=p
  by_cases e:f=g
  ·subst e;simpa [List.lookup] using h
  ·have hb:(f==g)=false:=by simpa using e
   simp only [qr,List.lookup,hb] at h ⊢
   exact ih h
theorem ziV (i:Nat) (hc:CF Γ X.K cl attrs) (hf:fl∈attrs) {vp:Pos} (hN:X.N[i]?=some x:=by rfl) (hv:Vis X.env.scope x:=by first | exact Or.inl rfl | exact Or.inr (Or.inl rfl) | exact Or.inr (Or.inr rfl)) (hd:(x==("__debug__":Str))=false:=by decide)
  (hcd:(x==("__classdict__":Str))=false:=by decide) (hb:attributeBase (.Name x vp) fl X.env (eval (.Name x vp) X.env)=eval (.Name x vp) X.env:=by rfl):DE Γ X (.Attribute (.Name x vp) fl pos) (zhL cl fl i):=⟨(zpD (zd6 hN hv hd hcd) hb).imp fun σ H Q=>by
 rintro ⟨G₀,H₀,G,ρ,d,A,h,k⟩
 unfold zhL at h
 split at h
 ·rename_i s hi
  split at h
  ·rename_i hcl
   obtain ⟨C,q1,q2,q3⟩:=hc.ex
   obtain ⟨v,fp,h1,h2⟩:=A.get hi
   cases h2 with
   | sh _=>cases h
   | own _ _ _ _=>cases h
   | odk _ _ _ _ _=>cases h
   | odt _ _ _ _ _=>cases h
   | tlo _ _ _ _ _ _=>cases h
   | oll _ _ _ _ _=>cases h
   | pin _=>cases h
   | obj g1 g2 g3 g4 g5 g6 g7 =>
    cases hcl
    rw [q1] at g1
    cases g1
    have h:List.lookup fl _=some d:=h
    rcases zcS (k:=fl) g5 g6 with ⟨z1,_⟩ | ⟨d',v',z1,z2,z3⟩
    ·rw [z1] at h;cases h
    ·rw [z1] at h
     cases h
     exact ⟨_,h1,_,C,_,_,v',rfl,g4,q2,q3 fl hf,z2,k v' G H (.refl A.gh) z3⟩
   | objd g1 g2 g3 g4 g5 g6 _ _ _ _ _ g7 =>
    cases hcl
    rw [q1] at g1
    cases g1
    unfold zmp at h
    simp only at h
    split at h
    ·cases h
    ·rcases zcS (k:=fl) g5 g6 with ⟨z1,_⟩ | ⟨d',v',z1,z2,z3⟩
     ·rw [z1] at h;cases h
     ·rw [z1] at h
      cases h
      exact ⟨_,h1,_,C,_,_,v',rfl,g4,q2,q3 fl hf,zoL z2,k v' G H (.refl A.gh) z3⟩
  ·cases h
 ·cases h⟩
def zfz (c f:Str) (i:Nat) (fv:FE):FS:=fun ρ=>(fv ρ).bind fun d=>match ρ[i]? with
 | some (some (.obj c' fs))=>if c'=c/\fs.lookup f=none/\fs.length < 100 then some (.nx,ρ.set i (some (.obj c (fs++[(f,d)])))) else none
 | _=>none
theorem zdw (i:Nat) (hc:CF Γ X.K cl attrs) (hf:fl∈attrs) {vp:Pos} (hv':DE Γ X value fv) (hN:X.N[i]?=some x:=by rfl) (hv:Vis X.env.scope x:=by first | exact Or.inl rfl | exact Or.inr (Or.inl rfl) | exact Or.inr (Or.inr rfl)) (hd:(x==("__debug__":Str))=false:=by decide)
  (hcd:(x==("__classdict__":Str))=false:=by decide) (hs:swapsWith value (some (.Attribute (.Name x vp) fl pos')) pos.line X.env=pure false:=by rfl):DS Γ X (.Assign [.Attribute (.Name x vp) fl pos'] value pos) (zfz cl fl i fv):=⟨(zpB (zd6 hN hv hd hcd) hv'.1 hs).imp fun E σ H=>by
 rintro ⟨G₀,H₀,G,ρ,flw,ρ',A,h,k⟩
 unfold zfz at h
 obtain ⟨d,hd,h⟩:=oBd h
 split at h
 ·rename_i c' fs hi
  split at h
  ·rename_i hz
   obtain ⟨rfl,hz2,hz3⟩:=hz
   cases h
   obtain ⟨C,q1,q2,q3⟩:=hc.ex
   refine ⟨G₀,H₀,G,ρ,d,A,hd,fun v G1 H1 s1 r1=>?_⟩
   have A1:=A.step s1
   obtain ⟨w,fp,h1,h2⟩:=A1.get hi
   cases h2 with
   | obj g1 g2 g3 g4 g5 g6 g7 =>
    rename_i a C' dx vs
    have g1':=g1
    rw [q1] at g1
    cases g1
    have hl:vs.lookup fl=none:=by
     rcases zcS (k:=fl) g5 g6 with ⟨_,z2⟩ | ⟨d',v',z1,_,_⟩
     ·exact z2
     ·rw [z1] at hz2;cases hz2
    have hlen:vs.length=fs.length:=by simpa using congrArg List.length g5
    refine ⟨_,h1,a,C,dx,vs,rfl,g4,q2,q3 fl hf,by omega,?_⟩
    rw [ziA hl]
    refine k σ G1 _ s1.gg (A1.ch hi h1 (.obj g1' g2 g3 g4 g5 g6 g7) (fun b o e hb=>?_) (.obj (vs:=vs++[(fl,v)]) g1' g2 g3 zav (by simp [g5]) (by simpa using g6.append (.cons r1 .nil)) g7) (fun b hb=>.inl hb) (.refl _) (fun b o e=>?_) (fun _ _ _ _=>rfl))
    ·rw [zap (fun z=>hb (List.mem_singleton.mpr z))];exact e
    ·rw [zap (zan e g3)];exact A1.gh b o e
  ·cases h
 ·cases h⟩
def zr0 (c f:Str) (i:Nat):FS:=fun ρ=>match ρ[i]? with
 | some (some (.obj c' fs))=>if c'=c/\fs.lookup f=none/\fs.length < 100 then some (.nx,ρ.set i (some (.objd c fs f []))) else none
 | _=>none
theorem ztv (i:Nat) (hc:CF Γ X.K cl attrs) (hf:fl∈attrs) {vp dp:Pos} (hN:X.N[i]?=some x:=by rfl) (hv:Vis X.env.scope x:=by first | exact Or.inl rfl | exact Or.inr (Or.inl rfl) | exact Or.inr (Or.inr rfl)) (hd:(x==("__debug__":Str))=false:=by decide)
  (hcd:(x==("__classdict__":Str))=false:=by decide) (hs:swapsWith (.Dict [] [] dp) (some (.Attribute (.Name x vp) fl pos')) pos.line X.env=pure false:=by rfl):DS Γ X (.Assign [.Attribute (.Name x vp) fl pos'] (.Dict [] [] dp) pos) (zr0 cl fl i):=⟨(zpB (zd6 hN hv hd hcd) zk6 hs).imp fun E σ H=>by
 rintro ⟨G₀,H₀,G,ρ,flw,ρ',A,h,k⟩ p hp
 unfold zr0 at h
 split at h
 ·rename_i c' fs hi
  split at h
  ·rename_i hz
   obtain ⟨rfl,hz2,hz3⟩:=hz
   cases h
   obtain ⟨C,q1,q2,q3⟩:=hc.ex
   obtain ⟨w,fp,h1,h2⟩:=A.get hi
   cases h2 with
   | obj g1 g2 g3 g4 g5 g6 g7 =>
    rename_i a C' dx vs
    have g1':=g1
    rw [q1] at g1
    cases g1
    have hl:vs.lookup fl=none:=by
     rcases zcS (k:=fl) g5 g6 with ⟨_,z2⟩ | ⟨d',v',z1,_,_⟩
     ·exact z2
     ·rw [z1] at hz2;cases hz2
    have hlen:vs.length=fs.length:=by simpa using congrArg List.length g5
    have npa:a≠p:=zan g4 hp
    refine ⟨_,h1,a,C,dx,vs,rfl,by rw [zap npa];exact g4,q2,q3 fl hf,by omega,?_⟩
    rw [ziA hl]
    have hp0:H₀ p=none:=A.st.hh.free hp
    have hpg:G p=none:=A.gh.free hp
    refine k σ G _ (.refl _) (A.ch hi h1 (.obj g1' g2 g3 g4 g5 g6 g7) (fun b o e hb=>?_) (.objd (vs:=vs) (p:=p) (us:=[]) (kvs:=[]) g1' g2 g3 zav g5 g6 hp0 hpg (by rw [zap npa.symm,zav]) rfl .nil g7) (fun b hb=>?_) (.refl _) (fun b o e=>?_) (fun _ _ _ _=>rfl))
    ·rw [zap (fun z=>hb (List.mem_singleton.mpr z)),zap (zan e hp)];exact e
    ·rcases List.mem_cons.mp hb with rfl | hb
     ·exact .inl (List.mem_singleton.mpr rfl)
     ·rw [List.mem_singleton.mp hb];exact .inr hp
    ·rw [zap (zan e g3),zap (zan e hpg)];exact A.gh b o e
  ·cases h
 ·cases h⟩
def zmo:Slot->Option D
 | .obj c fs=>some (.ins c fs)
 | .objd c fs n kvs=>some (.ins c (fs++[(n,.dk kvs)]))
 | _=>none
theorem At.done {K:PySem.W.Frag} {G₀ H₀ G H:Hp} {ρ:zaZ} {σ:St} (A:At Γ K G₀ H₀ G H ρ σ) {i:Nat} {s:Slot} {d:D} (hi:ρ[i]?=some (some s)) (hd:zmo s=some d):∃ a G',Γ.self=some a/\Step G₀ H₀ G' H/\Rep Γ K G' (.ref a) d:=by
 obtain ⟨v,fp,h1,h2⟩:=A.get hi
 cases h2 with
 | sh _=>cases hd
 | own _ _ _ _=>cases hd
 | odk _ _ _ _ _=>cases hd
 | odt _ _ _ _ _=>cases hd
 | tlo _ _ _ _ _ _=>cases hd
 | oll _ _ _ _ _=>cases hd
 | pin _=>cases hd
 | obj g1 g2 g3 g4 g5 g6 g7 =>
  cases hd
  rename_i a C dx vs fs
  have sm:zbV G (upd G a (.ins C dx vs)):=fun b o e=>by rw [zap (zan e g3)];exact e
  refine ⟨a,upd G a (.ins C dx vs),g7,⟨A.st.hh,A.st.gg.trans sm,fun b o e=>?_,fun b o e=>?_⟩,.ins zav g1 g5 (g6.mono sm)⟩
  ·by_cases hb:b=a
   ·subst hb;rw [zav] at e;cases e;exact g4
   ·rw [zap hb] at e;exact A.gh b o e
  ·rw [zap (zan e g2)];exact A.st.out b o e
 | objd g1 g2 g3 g4 g5 g6 y1 y2 y3 y4 y5 g7 =>
  cases hd
  rename_i n a C dx p vs fs us kvs
  have npa:a≠p:=zs8 g4 y3 (by intro z;cases z)
  have sm:zbV G (upd (upd G p (.dK us)) a (.ins C dx (vs++[(n,.ref p)]))):=fun b o e=>by rw [zap (zan e g3),zap (zan e y2)];exact e
  refine ⟨a,_,g7,⟨A.st.hh,A.st.gg.trans sm,fun b o e=>?_,fun b o e=>?_⟩,.ins (us:=vs++[(n,.ref p)]) (fs:=fs++[(n,.dk kvs)]) zav g1 (by simp [g5]) ?_⟩
  ·by_cases hb:b=a
   ·subst hb;rw [zav] at e;cases e;exact g4
   ·rw [zap hb] at e
    by_cases hb':b=p
    ·subst hb';rw [zav] at e;cases e;exact y3
    ·rw [zap hb'] at e;exact A.gh b o e
  ·rw [zap (zan e g2),zap (zan e y1)];exact A.st.out b o e
  ·have r2:Rep Γ K (upd (upd G p (.dK us)) a (.ins C dx (vs++[(n,.ref p)]))) (.ref p) (.dk kvs):=.dk (us:=us) (by rw [zap npa.symm,zav]) y4 (y5.mono sm)
   simpa using (g6.mono sm).append (.cons r2 .nil)
end
end L2
end
section
namespace L2
open PySem PySem.Spec PyProof.Rows
def Cn.mk1 (Γ:Cn) (x:Addr):Cn:=⟨Γ.cls,some x⟩
section
variable {Γ:Cn} {P:Program} {w:World} {K:PySem.W.Frag} {mg:Str->Option Value} {base:Heap} {c:Str} {attrs:List Str} {x:Addr}
theorem Rep.to1 {G:Hp} {v:V} {d:D} (x:Addr) (r:Rep Γ K G v d):Rep (Γ.mk1 x) K G v d:=Rep.re (Γ:=Γ) (Γ':=Γ.mk1 x) rfl r
theorem Rep.of1 {G:Hp} {v:V} {d:D} {x:Addr} (r:Rep (Γ.mk1 x) K G v d):Rep Γ K G v d:=Rep.re (Γ:=Γ.mk1 x) (Γ':=Γ) rfl r
theorem Reps.of1 {G:Hp} {v:List V} {d:List D} {x:Addr} (r:Reps (Γ.mk1 x) K G v d):Reps Γ K G v d:=Reps.re (Γ:=Γ.mk1 x) (Γ':=Γ) rfl r
theorem CF.re (h:CF Γ K c attrs) (x:Addr):CF (Γ.mk1 x) K c attrs:=⟨h.ex⟩
theorem zsp {n:Nat} {F:List D->Option D} {vs:List V} {H:Hp} {Q:VK} {E:XK} (x:Addr) (h:spF (Γ.mk1 x) K n F vs H Q E):spF Γ K n F vs H Q E:=by
 obtain ⟨G,ds,d,h1,h2,h3,h4,k⟩:=h
 exact ⟨G,ds,d,h1,h2.of1,h3,h4,fun v G' H' s r=>k v G' H' s (r.to1 x)⟩
theorem Cal.re {y:Str} {n k:Nat} {F:List D->Option D} (C:Cal Γ P w K mg base y n k F) (x:Addr):Cal (Γ.mk1 x) P w K mg base y n k F:=by
 obtain ⟨f,fd,ps,h1,h2,h3,h4⟩:=C.ex
 exact ⟨f,fd,ps,h1.imp fun vs H Q E q=>zsp x q,h2,h3,h4⟩
structure CalM (Γ:Cn) (P:Program) (w:World) (K:PySem.W.Frag) (mg:Str->Option Value) (base:Heap) (c m:Str) (n k:Nat) (F:List D->Option D):Prop where
 ex:∃ C f fd ps,Γ.cls c=some C/\Cls K C/\Meth K C m f/\FnOk P w K mg base CX0 k f fd ps (spF Γ K n F)/\zdF K fd ps []
def spI (Γ:Cn) (K:PySem.W.Frag) (C:Addr) (n:Nat) (F:List D->Option D):Sp:=fun vs H Q _=>∃ x dx H1 G ds d us,vs=.ref x::us/\H=upd (upd H1 dx (.own x)) x (.ins C dx [])/\H1 x=none/\H1 dx=none/\dx≠x/\zbV G H1/\Reps Γ K G us ds/\ds.length=n/\F ds=some d /\
 ∀ G' H',Step G H1 G' H'->Rep Γ K G' (.ref x) d->Q .non H'
structure CalI (Γ:Cn) (P:Program) (w:World) (K:PySem.W.Frag) (mg:Str->Option Value) (base:Heap) (c:Str) (n k:Nat) (F:List D->Option D):Prop where
 ex:∃ C f fd ps,Γ.cls c=some C/\Mk K C f/\mg c=some (.ref C)/\FnOk P w K mg base CX0 k f fd ps (spI Γ K C n F)/\zdF K fd ps []
end
section
variable {Γ:Cn} {X:Cx} {e o:Expr} {es:List Expr} {fo:FE} {fr:FA} {pos p apos:Pos} {c m:Str}
def zce (c m:Str) (F:List D->Option D) (fo:FE) (fr:FA):FE:=fun ρ=>(fo ρ).bind fun d=>match d with
 | .ins c' fs=>if c'=c/\fs.lookup m=none then (fr ρ).bind fun ds=>F (d::ds) else none
 | _=>none
theorem zf4 {n k j:Nat} {F:List D->Option D} {pl:Sem Bool} (C:CalM Γ X.prog X.w X.K X.mg X.base c m (n+1) k F) (hr:Room j X.A) (hk:k<=j) (ho:DE Γ X o fo) (ha:DA Γ X (e::es) fr) (hn:∀ ρ ds,fr ρ=some ds->ds.length=n)
  (hst:starEach (e::es) X.env=(false,eval e X.env)::starEach es X.env:=by rfl) (hpl:(backTo pos (starEach es X.env)).any (·.1)=false:=by rfl)
  (ht:eval (.Call (.Attribute o m apos) (e::es) [] pos) X.env=(do
   let ov ← eval o X.env
   standAt apos.atName
   let (f,first) ← holding [ov] (getMethod ov m pl)
   callWith pos f first (backTo pos (starEach (e::es) X.env)) (backToKw pos (keywordEach [] X.env))):=by rfl) :
  DE Γ X (.Call (.Attribute o m apos) (e::es) [] pos) (zce c m F fo fr):=⟨by
 obtain ⟨Ca,f,fd,ps,h0,h1,h2,h3,h4⟩:=C.ex
 refine (zqH ho.1 h1 h2 h3 (hr.mono hk) h4 .nil zlM ha.1 hst hpl ht).imp fun σ H Q=>?_
 rintro ⟨G₀,H₀,G,ρ,d,A,h,k⟩
 unfold zce at h
 obtain ⟨x,hx,hq⟩:=oBd h
 clear h
 refine ⟨G₀,H₀,G,ρ,x,A,hx,fun v G1 H1 s1 r1=>?_⟩
 split at hq
 ·rename_i c' fs
  split at hq
  ·rename_i hz
   obtain ⟨rfl,hz2⟩:=hz
   obtain ⟨ds,hds,hF⟩:=oBd hq
   have r1':=r1
   cases r1 with
   | ins g1 g2 g3 g4 =>
    rw [h0] at g2
    cases g2
    rename_i _ _ us0
    have hl:List.lookup m us0=none:=by
     rcases zcS (k:=m) g3 g4 with ⟨_,z2⟩ | ⟨d',v',z1,_,_⟩
     ·exact z2
     ·rw [z1] at hz2;cases hz2
    refine ⟨_,_,_,rfl,s1.gh _ _ g1,hl,G₀,H₀,G1,ρ,ds,A.step s1,hds,fun vs G2 H2 s2 r2=>?_⟩
    show spF Γ X.K (n+1) F (_::(vs++[])) H2 Q E0
    rw [List.append_nil]
    exact ⟨G2,_,d,s2.gh,.cons (r1'.mono s2.gg) r2,by rw [qj,hn ρ ds hds],hF,fun v G' H' s r=>k v G' H' ((s1.trans s2).trans s) r⟩
  ·cases hq
 ·cases hq⟩
theorem zcQ {k j:Nat} {F:List D->Option D} {pl:Sem Bool} (C:CalM Γ X.prog X.w X.K X.mg X.base c m 1 k F) (hr:Room j X.A) (hk:k<=j) (ho:DE Γ X o fo)
  (ht:eval (.Call (.Attribute o m apos) [] [] pos) X.env=(do
   let ov ← eval o X.env
   standAt apos.atName
   let (f,first) ← holding [ov] (getMethod ov m pl)
   callWith pos f first (backTo pos (starEach [] X.env)) (backToKw pos (keywordEach [] X.env))):=by rfl) :
  DE Γ X (.Call (.Attribute o m apos) [] [] pos) (zce c m F fo zal):=⟨by
 obtain ⟨Ca,f,fd,ps,h0,h1,h2,h3,h4⟩:=C.ex
 refine (zoz ho.1 h1 h2 h3 (hr.mono hk) h4 .nil zlM ht).imp fun σ H Q=>?_
 rintro ⟨G₀,H₀,G,ρ,d,A,h,k⟩
 unfold zce at h
 obtain ⟨x,hx,hq⟩:=oBd h
 clear h
 refine ⟨G₀,H₀,G,ρ,x,A,hx,fun v G1 H1 s1 r1=>?_⟩
 split at hq
 ·rename_i c' fs
  split at hq
  ·rename_i hz
   obtain ⟨rfl,hz2⟩:=hz
   obtain ⟨ds,hds,hF⟩:=oBd hq
   cases hds
   have r1':=r1
   cases r1 with
   | ins g1 g2 g3 g4 =>
    rw [h0] at g2
    cases g2
    rename_i _ _ us0
    have hl:List.lookup m us0=none:=by
     rcases zcS (k:=m) g3 g4 with ⟨_,z2⟩ | ⟨d',v',z1,_,_⟩
     ·exact z2
     ·rw [z1] at hz2;cases hz2
    refine ⟨_,_,_,rfl,s1.gh _ _ g1,hl,?_⟩
    exact ⟨G1,_,d,s1.gh,.cons r1' .nil,rfl,hF,fun v G' H' s r=>k v G' H' (s1.trans s) r⟩
  ·cases hq
 ·cases hq⟩
theorem zrA {n k j:Nat} {F:List D->Option D} (C:CalI Γ X.prog X.w X.K X.mg X.base c n k F) (hr:Room j X.A) (hk:k+1<=j) (hg:Gl X c) (ha:DA Γ X (e::es) fr) (hn:∀ ρ ds,fr ρ=some ds->ds.length=n)
  (hdb:(c==("__debug__":Str))=false:=by decide) (he:starEach (e::es) X.env=(false,eval e X.env)::starEach es X.env:=by rfl) (hpl:(backTo pos (starEach es X.env)).any (·.1)=false:=by rfl) :
  DE Γ X (.Call (.Name c p) (e::es) [] pos) (cF F fr):=⟨by
 obtain ⟨Ca,f,fd,ps,h0,h1,h2,h3,h4⟩:=C.ex
 refine (zqI h1 h3 (hr.mono hk) hg h2 h4 .nil zlM ha.1 hdb he hpl).imp fun σ H Q=>?_
 rintro ⟨G₀,H₀,G,ρ,d,A,h,k⟩
 unfold cF at h
 obtain ⟨ds,hd,hq⟩:=oBd h
 refine ⟨G₀,H₀,G,ρ,ds,A,hd,fun vs G1 H1 s1 r1 x dx hx hdx hne=>?_⟩
 rw [List.append_nil]
 exact ⟨x,dx,H1,G1,ds,d,vs,rfl,rfl,hx,hdx,hne,s1.gh,r1,hn ρ ds hd,hq,fun G' H' s r=>⟨rfl,k _ G' H' (s1.trans s) r⟩⟩⟩
end
def zr3 (n:Nat) (c:Str) (g:FS):List D->Option D:=fun ds=>(g (some (.obj c [])::ds.map (fun d=>some (Slot.sh d))++List.replicate n none)).bind fun r=>match r.1 with
 | .nx=>match r.2[0]? with
  | some (some s)=>zmo s
  | _=>none
 | _=>none
section
variable {Γ:Cn} {P:Program} {w:World} {K:PySem.W.Frag} {mg:Str->Option Value} {base:Heap} {c:Str} {attrs:List Str}
theorem Fun.okI {x qual:Str} {st:Stmt} {f C:Addr} {fd:FuncData} {N ps:List Str} {s0:Str} {k:Nat} {g:FS} (F:Fun K x qual st f fd) (S:FnScope N (s0::ps) (zak st)) (hC:Γ.cls c=some C)
  (hbody:∀ (y:Addr) (cdv:Value) (A:Around) (outer:List Env) (s:Shared) (H:Hp) (E:XK),Room k (A.deeper (envOfC qual (zak st) s.heap.objs.size f cdv)) ->
   DSs (Γ.mk1 y) (zj6 CX0 P w K mg base N qual (zak st) f cdv A outer s H E).nox (zbu st) g):FnOk P w K mg base CX0 (k+1) f fd (s0::ps) (spI Γ K C ps.length (zr3 (N.length - (ps.length+1)) c g)):=by
 refine F.ok S (fun vs H Q E h=>?_) (fun cdv A outer s H vs Q E hr h=>?_)
 ·obtain ⟨y,dx,H1,G,ds,d,us,rfl,_,_,_,_,_,r,hl,_⟩:=h
  rw [qj,r.length,hl,qj]
 ·obtain ⟨y,dx,H1,G,ds,d,us,rfl,rfl,hx,hdx,hne,gh,r,hl,hd,k⟩:=h
  refine ⟨_,(hbody y cdv A outer s _ E hr).1,?_⟩
  unfold zr3 at hd
  obtain ⟨⟨fl,ρ'⟩,hg,hd⟩:=oBd hd
  have s1:=Step.newOwn (o:=.own y) gh hdx
  have hx1:(upd H1 dx (.own y)) y=none:=by rw [zap (Ne.symm hne)];exact hx
  have s2:=s1.trans (Step.newOwn (o:=.ins C dx []) s1.gh hx1)
  have hlen:us.length=ds.length:=r.length
  have A0:At (Γ.mk1 y) K G H1 G (upd (upd H1 dx (.own y)) y (.ins C dx [])) (some (.obj c [])::ds.map (fun d=>some (Slot.sh d))++List.replicate (N.length - (ps.length+1)) none) (zfv N (.ref y::us)):=by
   refine ⟨s2,by simp [zfv,hlen,hl],fun i=>if i=0 then [y] else [],fun i t e=>?_,fun i j t u hij e1 e2 b hb=>?_⟩
   ·cases i with
    | zero =>
     cases e
     exact ⟨.ref y,rfl,.obj (vs:=[]) (fs:=[]) hC hx (gh.free hx) zav rfl .nil rfl⟩
    | succ i =>
     have e:(ds.map (fun d=>some (Slot.sh d))++List.replicate (N.length - (ps.length+1)) none)[i]?=some (some t):=e
     by_cases hi:i < ds.length
     ·rw [qy (by simpa using hi),qm] at e
      obtain ⟨d',hd',e⟩:=oMd e
      cases e
      obtain ⟨v,hv,rv⟩:=r.get hd'
      refine ⟨v,?_,.sh (rv.to1 y)⟩
      unfold zfv
      show ((us.map some)++_)[i]?=some (some v)
      rw [qy (by rw [qg,hlen];exact hi),qm,hv]
      rfl
     ·rw [qI (by simpa using hi),List.getElem?_replicate] at e
      split at e <;> cases e
   ·have hb:b∈(if i=0 then [y] else []):=hb
    show b∉(if j=0 then [y] else [])
    by_cases hi:i=0
    ·subst hi
     rw [qV (Ne.symm hij)]
     exact fun z=>by cases z
    ·rw [qV hi] at hb;cases hb
  refine ⟨G,H1,G,_,fl,ρ',A0,hg,fun σ' G' H' sm A'=>?_⟩
  cases fl with
  | nx =>
   simp only at hd
   split at hd
   ·rename_i sl hs
    obtain ⟨a,G2,e1,st2,rp⟩:=A'.done hs hd
    cases e1
    exact k G2 H' st2 rp.of1
   ·cases hd
  | rt d'=>cases hd
  | ow d'=>cases hd
  | nw d'=>cases hd
  | od d'=>cases hd
  | bk=>cases hd
  | ct=>cases hd
structure DfnM (K:PySem.W.Frag) (C:Addr) (c m qual:Str) (st:Stmt):Prop where
 ex:∃ f fd,Fun K m qual st f fd/\PySem.W.findIn K (.ref C) m=some (some (.ref f))/\PySem.W.isFn K (.ref f)=true
structure ClsOk (Γ:Cn) (K:PySem.W.Frag) (mg:Str->Option Value) (c:Str) (C:Addr):Prop where
 cn:Γ.cls c=some C
 cl:Cls K C
 mgC:mg c=some (.ref C)
 makes:PySem.W.makesIn K C=true
 kp:PySem.W.keepIn K (.ref C)=true
theorem DfnM.cal {m qual:Str} {C:Addr} {st:Stmt} {N ps:List Str} {k:Nat} {g:FS} (O:ClsOk Γ K mg c C) (F:DfnM K C c m qual st) (S:FnScope N ps (zak st))
  (hb:∀ (kV doc pm:Value) (an:Option Addr) (cdv ct:Value) (us:List Value),us.length=ps.length->bindArgs (PySem.W.fnOf m qual (zcC st) (zbu st) (zak st) .none kV doc pm an cdv ct) ⟨us,[]⟩=pure (ps.zip us))
  (hbody:∀ (f:Addr) (cdv:Value) (A:Around) (outer:List Env) (s:Shared) (H:Hp) (E:XK),Room k (A.deeper (envOfC qual (zak st) s.heap.objs.size f cdv)) ->
   DSs Γ (zj6 CX0 P w K mg base N qual (zak st) f cdv A outer s H E).nox (zbu st) g):CalM Γ P w K mg base c m ps.length (k+1) (zb9 (N.length - ps.length) g):=by
 obtain ⟨f,fd,h1,h2,h3⟩:=F.ex
 exact ⟨C,f,fd,ps,O.cn,O.cl,⟨h2,h3,h1.kp⟩,h1.okD S (hbody f),h1.binds hb⟩
theorem DfnM.calI {qual:Str} {C:Addr} {st:Stmt} {N ps:List Str} {s0:Str} {k:Nat} {g:FS} (O:ClsOk Γ K mg c C) (F:DfnM K C c "__init__" qual st) (S:FnScope N (s0::ps) (zak st))
  (hb:∀ (kV doc pm:Value) (an:Option Addr) (cdv ct:Value) (us:List Value),us.length=(s0::ps).length->bindArgs (PySem.W.fnOf "__init__" qual (zcC st) (zbu st) (zak st) .none kV doc pm an cdv ct) ⟨us,[]⟩=pure ((s0::ps).zip us))
  (hbody:∀ (f y:Addr) (cdv:Value) (A:Around) (outer:List Env) (s:Shared) (H:Hp) (E:XK),Room k (A.deeper (envOfC qual (zak st) s.heap.objs.size f cdv)) ->
   DSs (Γ.mk1 y) (zj6 CX0 P w K mg base N qual (zak st) f cdv A outer s H E).nox (zbu st) g):CalI Γ P w K mg base c ps.length (k+1) (zr3 (N.length - (ps.length+1)) c g):=by
 obtain ⟨f,fd,h1,h2,h3⟩:=F.ex
 exact ⟨C,f,fd,s0::ps,O.cn,⟨O.makes,h2,h3,O.kp⟩,O.mgC,h1.okI S O.cn (hbody f),h1.binds hb⟩
theorem ClsOk.cf {C:Addr} (O:ClsOk Γ K mg c C) (h:∀ f∈attrs,zeY K C f):CF Γ K c attrs:=⟨C,O.cn,O.cl,h⟩
end
end L2
end
section
namespace ST
open PySem
structure Pr where
 j:Nat
 more:Nat
 i:Nat
 pt:Nat
def adv (M:Nat) (p:Pr):Pr:=if p.more > 0 then { p with j:=p.j+1,more:=p.more - 1 } else
 { j:=(SetTable.leap M p.i p.pt).1,more:=SetTable.runEnd M (SetTable.leap M p.i p.pt).1 - (SetTable.leap M p.i p.pt).1,i:=(SetTable.leap M p.i p.pt).1,pt:=(SetTable.leap M p.i p.pt).2 }
def st0 (M:Nat) (h:Int):Pr:={ j:=SetTable.bits h % (M+1),more:=SetTable.runEnd M (SetTable.bits h % (M+1)) - SetTable.bits h % (M+1),i:=SetTable.bits h % (M+1),pt:=SetTable.bits h }
def it (M:Nat) (h:Int):Nat->Pr
 | 0=>st0 M h
 | n+1=>adv M (it M h n)
def J (M:Nat) (h:Int) (n:Nat):Nat:=(it M h n).j
theorem zue (M:Nat):∀ (k:Nat) (p:Pr),k<=p.more->Nat.repeat (adv M) k p={ p with j:=p.j+k,more:=p.more - k }
 | 0,p,_=>rfl
 | k+1,p,h=>by
  rw [Nat.repeat,zue M k p (by omega)]
  unfold adv
  rw [qU (by show p.more - k > 0;omega)]
  simp only [Nat.sub_sub,Nat.add_assoc]
def fl (M i:Nat):Nat:=(i*5+1) % (M+1)
def orb (M:Nat):Nat->Nat->Nat
 | 0,i=>i
 | m+1,i=>fl M (orb M m i)
structure Full (M:Nat):Prop where
 all:∀ j,j<=M->∃ m,m < M+1/\orb M m 0=j
 back:orb M (M+1) 0=0
end ST
end
section
namespace ST
open PySem
structure Tb (t:SetTable) (es:Array (Int×Value)):Prop where
 full:Full t.mask
 sz:t.place.size=es.size
 dm:t.dummies=#[]
 ri:t.place.toList.Pairwise (· < ·)
 le:∀ j∈t.place.toList,j<=t.mask
 few:es.size*5 < t.mask*3
 rc:∀ (i j:Nat) (h:Int) (x:Value),t.place[i]?=some j->es[i]?=some (h,x)->∃ n,J t.mask h n=j/\∀ m,m < n->J t.mask h m∈t.place.toList
section
variable {t:SetTable} {es:Array (Int×Value)}
end
end ST
end
section
namespace ST
open PySem
def ztl (owner:Array (Option Nat)) (j:Nat):Bool:=(owner.getD j (some 0)).isNone
structure Own (M:Nat) (hs:List Int) (owner:Array (Option Nat)):Prop where
 sz:owner.size=M+1
 lt:∀ (j k:Nat),owner[j]?=some (some k)->k < hs.length
 on:∀ k,k < hs.length->∃ j:Nat,owner[j]?=some (some k)
 inj:∀ (j j' k:Nat),owner[j]?=some (some k)->owner[j']?=some (some k)->j=j'
 rc:∀ (j k:Nat) h,owner[j]?=some (some k)->hs[k]?=some h->∃ n,J M h n=j/\∀ m,m < n->ztl owner (J M h m)=false
end ST
end
section
namespace ST
open PySem
def Mk (M:Nat):Prop:=M=7\/M=31\/M=127\/M=511
end ST
end
section
namespace ST
open PySem PySem.Spec PyProof.Rows
section
variable {prog:Program} {w:World} {A:Around} {R:Result->Shared->Prop} {I:Addr} {fp wr:List Addr} {G:Array GenState->Array GenState->Prop} {n:Nat} {P:Nat->Value->Prop} {St:Nat->Shared->Prop}
def zvp (prog:Program) (w:World) (A:Around) (S:Addr) (Ba:Heap->Prop) (P:Nat->Value->Prop) (n:Nat) (J:Nat->Obj->Prop):Prop :=
 ∀ (i:Nat) (v:Value) (s:Shared) (o:Obj) (Q:Bool->Shared->Prop) (E:Value->Shared->Prop),i < n->P i v->s.heap.get? S=some o->J i o->Ba s.heap ->
  (∀ b h' tk o',s.toks<=tk->Heap.SameBut S s.heap h'->h'.get? S=some o'->J (i+1) o'->Q b { s with heap:=h',toks:=tk })->wpAny (model prog w) A (setAdd S v) Q E s
theorem zol (W:WalksS prog w A.in1 I fp wr G n P St) (S:Addr) (hSf:S∉fp) (Ba:Heap->Prop) (hBa:∀ h h',Ba h->(∀ b o,b∉S::wr->h.get? b=some o->h'.get? b=some o)->Ba h') (J:Nat->Obj->Prop) (hadd:zvp prog w A.in1 S Ba P n J) :
  ∀ (k i:Nat) (s:Shared) (o:Obj),n - i=k->i<=n->St i s->s.heap.get? S=some o->J i o->Ba s.heap ->
   (∀ s' o',Moved (S::wr) G s s'->s'.heap.get? S=some o'->J n o'->R (.ok (.ret .none)) s') ->
   codeAny (model prog w) A (.builtin "set.update.loop" ⟨[.ref S,.ref I],[]⟩) R s:=by
 have hSw:S∉wr:=fun h=>hSf (W.sub _ h)
 have hsub:∀ b∈wr,b∈S::wr:=fun b hb=>qi _ hb
 intro k
 induction k with
 | zero =>
  intro i s o hk hi hst hS hJ hB hR
  have hin:i=n:=by omega
  subst hin
  refine codeAny_builtin F.entry_set_update_loop ?_
  rw [Around.under_plainId F.plain_set_update_loop _]
  show wpAny _ A.in1 (pyNext (.ref I) >>= _) _ _ s
  refine qx (W.done s _ _ hst fun s' hm=>?_)
  show wpAny _ A.in1 (ret Value.none) _ _ s'
  exact qz (hR s' o (hm.mono hsub) (hm.heap S _ hSw hS) hJ)
 | succ k ih =>
  intro i s o hk hi hst hS hJ hB hR
  have hlt:i < n:=by omega
  refine codeAny_builtin F.entry_set_update_loop ?_
  rw [Around.under_plainId F.plain_set_update_loop _]
  show wpAny _ A.in1 (pyNext (.ref I) >>= _) _ _ s
  refine qx (W.item i s _ _ hlt hst fun v s' hP hst' hm=>?_)
  show wpAny _ A.in1 (holding [v] (setAdd S v) >>= _) _ _ s'
  refine qx (wpAny_holding ?_)
  refine hadd i v s' o _ _ hlt hP (hm.heap S _ hSw hS) hJ (hBa _ _ hB fun b o hb e=>hm.heap b o (fun z=>hb (hsub b z)) e) fun b h' tk o' htk hsb hS' hJ'=>?_
  refine qz ⟨plainId_quiet F.plain_set_update_loop _,ih (i+1) _ o' (by omega) hlt (W.frame _ s' _ _ hst' htk fun b hb o e=>?_) hS' hJ' ?_ fun s'' o'' hm'' hS'' hJ''=>?_⟩
  ·rw [hsb.2 b (fun h:b=S=>hSf (by rw [← h];exact hb))];exact e
  ·refine hBa _ _ (hBa _ _ hB fun b o hb e=>hm.heap b o (fun z=>hb (hsub b z)) e) fun b o hb e=>?_
   show h'.get? b=some o
   rw [hsb.2 b (fun h:b=S=>hb (by rw [h];exact qh))];exact e
  ·refine hR s'' o'' (Moved.trans W.gtrans ((hm.mono hsub).then_heap htk fun b o hb e=>?_) hm'') hS'' hJ''
   rw [hsb.2 b (fun h:b=S=>hb (by rw [h];exact qh))];exact e
end
section
variable {prog:Program} {w:World} {A:Around} {E:Value->Shared->Prop} {s:Shared}
set_option maxRecDepth 100000 in
set_option maxHeartbeats 3200000 in
theorem zjQ {l:Addr} {items:Array Value} {Q:Value->Shared->Prop} (hh:A.handled=none) (hl:s.heap.IsList l items) (J:Nat->Obj->Prop)
  (hJ0:∀ led:Bool,J 0 { cls:=.type "set",dict:=none,data:=.set #[] 0 (.fresh 0 0 led) })
  (hadd:∀ A':Around,A'.units<=A.units+16->zvp prog w A' s.heap.objs.size (fun h=>∀ b o,b < s.heap.objs.size->s.heap.get? b=some o->h.get? b=some o) (fun i v=>items[i]?=some v) items.size J)
  (h:∀ (h':Heap) (tk:Nat) (o:Obj),h'.get? s.heap.objs.size=some o->J items.size o ->
   (∀ b o,b < s.heap.objs.size->s.heap.get? b=some o->h'.get? b=some o)->Q (.ref s.heap.objs.size) { s with heap:=h',toks:=tk }) :
  wpAny (model prog w) A (call (.type "set") [.ref l]) Q E s:=by
 obtain ⟨c,tl,hmro⟩:=F.called_set.mro
 have hmade:=F.called_set.made
 have hsub:=F.called_set.sub
 refine wpAny_call (codeAny_of_tree ?_)
 show wpAny _ _ (callAny (.type "set") _) _ _ _
 refine qz ⟨Code.quiet_builtin _ (by decide +kernel),codeAny_builtin F.entry_type_call ?_⟩
 rw [Around.under_plain (weight_type_call_type "set" [.ref l] []) rfl]
 have h1:=F.called_set.notType
 have h2:=F.called_set.canCreate
 have hct:=F.typeCall_set_1 (.ref l)
 repeat (any_goals (first | assumption | wp_step))
 refine codeAny_mono (code_set_new_1 (.ref l) (E:=E) (Q₁:=fun obj s₁=>∃ led:Bool,obj=.ref s.heap.objs.size/\s₁={ s with heap:=s.heap.push { cls:=.type "set",dict:=none,data:=.set #[] 0 (.fresh 0 0 led) } }) fun led=>⟨led,rfl,rfl⟩) fun r s₁ hr=>?_
 cases r with
 | error e=>exact hr
 | ok fl =>
  cases fl with
  | ret obj =>
   obtain ⟨led,rfl,rfl⟩:=hr
   have hS:(s.heap.push { cls:=.type "set",dict:=none,data:=.set #[] 0 (.fresh 0 0 led) }).get? s.heap.objs.size=some { cls:=.type "set",dict:=none,data:=.set #[] 0 (.fresh 0 0 led) }:=qF _ rfl
   have hT:Shared.TypeIs { s with heap:=s.heap.push { cls:=.type "set",dict:=none,data:=.set #[] 0 (.fresh 0 0 led) } } (.ref s.heap.objs.size) "set":=⟨_,hS,rfl⟩
   have hli:=F.called_set.init.lookup
   have hbi:=F.called_set.init.bind (.ref s.heap.objs.size)
   repeat (any_goals (first | assumption | wp_step))
   refine codeAny_mono (codeAny_call_builtin (R:=wants (fun r s₂=>r=.none/\∃ h' tk o,s₂={ s with heap:=h',toks:=tk }/\h'.get? s.heap.objs.size=some o/\J items.size o /\
     (∀ b o,b < s.heap.objs.size->s.heap.get? b=some o->h'.get? b=some o)) E) F.called_set.init.plain F.entry_set_init (check_set_init_1 hT ?_)) fun r₂ s₂ hr₂=>?_
   ·obtain ⟨ol,hol,hcl,nl,hdl⟩:=hl
    obtain ⟨ocls,odict,odata,oslots⟩:=ol
    simp only at hcl hdl
    subst hcl;subst hdl
    have hol':(s.heap.push { cls:=.type "set",dict:=none,data:=.set #[] 0 (.fresh 0 0 led) }).get? l=some { cls:=.type "list",dict:=odict,data:=.seq items nl,slots:=oslots }:=qu _ hol
    have hsls:=F.sub_list_set
    have hslf:=F.sub_list_frozenset
    have hne:(Value.type "list"==Value.type "dict")=false:=by decide
    have hl1:(s.heap.push { cls:=.type "set",dict:=none,data:=.set #[] 0 (.fresh 0 0 led) }).IsList l items:=⟨_,hol',rfl,nl,rfl⟩
    unfold Builtin.«set.__init__» noKeywords Builtin.Frozenset.updateFrom
    generalize hPI:pyIter=PI
    wp_walk
    subst hPI
    refine wpAny_pyIter_list hl1 ?_
    refine qx (wpAny_runValue ?_)
    have hlS:l < s.heap.objs.size:=qv hol
    have hh3:A.in1.in1.in1.handled=none:=by simp [hh]
    have hneI:l≠(s.heap.push { cls:=.type "set",dict:=none,data:=.set #[] 0 (.fresh 0 0 led) }).objs.size:=by
     rw [Heap.size_push];exact qB (Nat.lt_succ_of_lt hlS)
    have hSf:s.heap.objs.size∉[(s.heap.push { cls:=.type "set",dict:=none,data:=.set #[] 0 (.fresh 0 0 led) }).objs.size,l]:=by
     rw [Heap.size_push];simp only [qJ,List.mem_singleton,qH,or_false,not_or]
     exact ⟨qB (Nat.lt_succ_self _),Nat.ne_of_gt hlS⟩
    have hget:((s.heap.push { cls:=.type "set",dict:=none,data:=.set #[] 0 (.fresh 0 0 led) }).push { cls:=.type "list_iterator",data:=.fields #[.ref l,.int 0 0] }).get? s.heap.objs.size
       = some { cls:=.type "set",dict:=none,data:=.set #[] 0 (.fresh 0 0 led) }:=qu _ hS
    refine zol ((Walks.list hh3 _ l hneI items).toS) s.heap.objs.size
     hSf (fun h=>∀ b o,b < s.heap.objs.size->s.heap.get? b=some o->h.get? b=some o) (fun h h' hB hk b o hb e=>hk b o ?_ (hB b o hb e)) J (hadd _ (by show A.units+3<=_;omega)) (items.size - 0) 0 _ _ (by omega) (Nat.zero_le _)
     ⟨⟨_,qF _ rfl,rfl,rfl⟩,(hl1.push _)⟩ hget (hJ0 led) (fun b o hb e=>qu _ (qu _ e)) ?hR
    ·have hb1:b≠s.heap.objs.size:=qB hb
     have hb2:b≠(s.heap.push { cls:=.type "set",dict:=none,data:=.set #[] 0 (.fresh 0 0 led) }).objs.size:=by
      rw [Heap.size_push];exact qB (Nat.lt_succ_of_lt hb)
     simp only [qJ,List.mem_singleton,qH,or_false,not_or];exact ⟨hb1,hb2⟩
    case hR =>
     intro s' o' hm hS' hJ'
     obtain ⟨h',g',d',tk',os'⟩:=s'
     have eg:g'=s.gens:=hm.gens
     have ed:d'=s.drawn:=hm.drawn
     have eo:os'=s.os:=hm.os
     subst eg;subst ed;subst eo
     show wpAny _ _ _ _ _ _
     refine qz ?_
     show wpAny _ _ (ret Value.none) _ _ _
     refine qz ⟨rfl,h',tk',o',rfl,hS',hJ',fun b o hb e=>?_⟩
     have hb1:b≠s.heap.objs.size:=qB hb
     have hb2:b≠(s.heap.push { cls:=.type "set",dict:=none,data:=.set #[] 0 (.fresh 0 0 led) }).objs.size:=by
      rw [Heap.size_push];exact qB (Nat.lt_succ_of_lt hb)
     exact hm.heap b o (by simp only [qJ,List.mem_singleton,qH,or_false,not_or];exact ⟨hb1,hb2⟩) (qu _ (qu _ e))
   ·cases r₂ with
    | error e=>exact hr₂
    | ok fl₂ =>
     cases fl₂ with
     | ret r =>
      obtain ⟨rfl,h',tk,o',rfl,hS',hJ',hk'⟩:=hr₂
      repeat (any_goals (first | assumption | wp_step))
      exact h _ _ _ hS' hJ' hk'
     | _=>exact hr₂.elim
  | _=>exact hr.elim
end
end ST
end
section
namespace ST
open PySem PySem.Spec PyProof.Rows
def dd {κ:Type} [DecidableEq κ] (l:List κ):List κ:=l.foldl (fun a k=>if k∈a then a else a++[k]) []
theorem zrC {κ:Type} [DecidableEq κ] (l:List κ) (k:κ):dd (l++[k])=if k∈dd l then dd l else dd l++[k]:=by
 unfold dd;rw [List.foldl_append];rfl
theorem znH {κ:Type} [DecidableEq κ] (l:List κ):(dd l).length<=l.length:=by
 have key:∀ (l a:List κ),(l.foldl (fun a k=>if k∈a then a else a++[k]) a).length<=a.length+l.length:=by
  intro l
  induction l with
  | nil=>intro a;exact qw _
  | cons k r ih =>
   intro a
   rw [List.foldl_cons]
   refine qK (ih _) ?_
   split
   ·simp only [qj];omega
   ·simp only [qk,qj,qo];omega
 have:=key l []
 simpa [dd] using this
section
variable {prog:Program} {w:World} {κ:Type} [DecidableEq κ] {knd:KeyKind prog w κ} {A:Around} {E:Value->Shared->Prop} {s:Shared}
end
end ST
end
section
namespace ST
open PySem PySem.Spec PyProof.Rows
section
variable {prog:Program} {w:World} {κ:Type} [DecidableEq κ] {knd:KeyKind prog w κ} {A:Around} {E:Value->Shared->Prop} {s:Shared}
def zv2 (knd:KeyKind prog w κ) (h:Heap) (es:Array (Int×Value)):Prop:=∀ (i:Nat) e,es[i]?=some e->∃ k b,e=(tupleKeyHash knd k,.ref b)/\IsTupleKey knd h k b
structure TS (knd:KeyKind prog w κ) (h:Heap) (ks:List (List κ)) (o:Obj):Prop where
 cls:o.ExactSet
 ex:∃ es ep t,o.data=.set es ep t/\Tb t es/\Mk t.mask/\zv2 knd h es/\es.size=(dd ks).length/\(∀ k∈dd ks,∃ (i:Nat) (b:Addr),es[i]?=some (tupleKeyHash knd k,.ref b)/\IsTupleKey knd h k b)/\∀ (i:Nat) (k:List κ) (b:Addr),es[i]?=some (tupleKeyHash knd k,.ref b)->IsTupleKey knd h k b->k∈dd ks
theorem IsTupleKey.mono {h h':Heap} {k:List κ} {a:Addr} (x:IsTupleKey knd h k a) (q:∀ o,h.get? a=some o->h'.get? a=some o):IsTupleKey knd h' k a:=by
 obtain ⟨o,items,n,h1,h2⟩:=x
 exact ⟨o,items,n,q o h1,h2⟩
end
end ST
end
section
namespace L2
open PySem PySem.Spec PyProof.Rows ST
instance (priority:=high) keyBEq:BEq Key:=instBEqOfDecidableEq
instance (priority:=high) keyLaw:LawfulBEq Key:=inferInstanceAs (@LawfulBEq Key instBEqOfDecidableEq)
def zvn (n:Nat) (o:Obj):Prop:=o.ExactSet/\∃ es ep t,o.data=.set es ep t/\t.fits es.size=true/\es.size=n
def zrX (p:Addr) (n:Nat):HO:=.ext fun h=>∃ o,h.get? p=some o/\zvn n o
section
variable {X:Cx}
theorem zoJ {P:Program} {w:World} (v:Value) (k:Key) (h:(zaM P w).is k v=true):v.scannable=true:=by
 rcases zbE h with ⟨i,t,rfl,rfl⟩ | ⟨x,t,rfl,rfl⟩ <;> rfl
def zvH:List V->Hp->VK->Prop:=fun xs H Q=>∃ a vs,xs=[.ref a]/\H a=some (.lst vs)/\vs.length<=300 /\
 ∃ ks:List Key,vs=ks.map kV/\∀ p,H p=none->Q (.ref p) (upd H p (zrX p (dd ks).length))
theorem zpi (hc:X.calm=true) (hu:X.A.units+66 < cLine):zdJ X (.type "set") zvH:=by
 intro pins s σ H xs us Q I r h
 obtain ⟨a,vs,rfl,ha,hl,h⟩:=h
 obtain ⟨u,rfl,ru⟩:=zeb r
 cases ru
 obtain ⟨its,rv,pl,hz⟩:=I.list (.inl (.inl ha))
 have hlen:=rv.length
 have hsz:its.toArray.size=vs.length:=by rw [qA,hlen]
 have fin:∀ (n:Nat) (h':Heap) (tk:Nat) (o:Obj),h'.get? s.heap.objs.size=some o->zvn n o->(∀ b o,b < s.heap.objs.size->s.heap.get? b=some o->h'.get? b=some o) ->
   (∀ p,H p=none->Q (.ref p) (upd H p (zrX p n)))->EP X pins σ Q (.ref s.heap.objs.size) { s with heap:=h',toks:=tk }:=fun n h' tk o ho hn hk q=>by
  refine ⟨.ref s.heap.objs.size,_,I.laid (a:=s.heap.objs.size) (o:=zrX s.heap.objs.size n) (fun b u e=>hk b u (qv e) e) (qw _) ?_,rfl,q _ I.fresh⟩
  refine ⟨⟨o,ho,hn⟩,⟨o,ho⟩,fun h1 h2 hp hk2=>?_⟩
  obtain ⟨o1,q1,q2⟩:=hp
  exact ⟨o1,hk2 o1 q1,q2⟩
 obtain ⟨ks,rfl,q⟩:=h
 ·
  have hkl:ks.length=its.length:=by rw [← hlen,qg]
  refine zjQ (I.ok.hd hc) pl.isList (fun i o=>o.SetObjOf (zaM X.prog X.w) (fun k=>decide (k∈dd (ks.take i))) (dd (ks.take i)).length) (fun led=>?_) (fun A' hA' i v sh o Q' E' hi hv ho hJ hB hQ=>?_) fun h' tk o ho hJ hk=>?_
  ·have:=setObjOf_fresh (knd:=zaM X.prog X.w) led
   simpa [dd] using this
  ·have hi':i < ks.length:=by rw [qA] at hi;omega
   obtain ⟨u2,hu2,ru2⟩:=rv.get (i:=i) (x:=kV ks[i]) (by simp [hi'])
   have ev:v=u2:=by
    have hv':its[i]?=some v:=by simpa using hv
    rw [hu2] at hv'
    exact (qG hv').symm
   subst ev
   have hkey:=zjE (P:=X.prog) (w:=X.w) ru2
   have hle:(dd (ks.take i)).length<=300:=by
    have h1:=znH (ks.take i)
    rw [qD] at h1
    rw [qg] at hl
    omega
   unfold setAdd
   refine wpAny_holding (qx ((zaM X.prog X.w).pyHash hkey ?_))
   refine wpAny_setAddHashed_of (knd:=zaM X.prog X.w) (s:={ sh with toks:=sh.toks+1 }) hkey (zoJ _ _ hkey) (hJ.setOf ho (by unfold scanBound;omega)) (by unfold scanBound;omega) fun h' hsb hS2=>?_
   obtain ⟨o',ho',hso⟩:=hS2.objOf
   refine hQ _ h' _ o' (Nat.le_succ _) hsb ho' ?_
   have htk:ks.take (i+1)=ks.take i++[ks[i]]:=by rw [List.take_succ,qC hi'];rfl
   show Obj.SetObjOf (zaM X.prog X.w) o' (fun k=>decide (k∈dd (List.take (i+1) ks))) (dd (List.take (i+1) ks)).length
   rw [htk,zrC]
   by_cases hm:ks[i]∈dd (ks.take i)
   ·rw [qU hm]
    rw [qU (by simpa using hm)] at hso
    have e:(fun k'=>decide (k'∈dd (ks.take i)) || decide (k'=ks[i]))=fun k'=>decide (k'∈dd (ks.take i)):=by
     funext k'
     by_cases hk':k'=ks[i]
     ·subst hk';simp [hm]
     ·simp [hk']
    rw [e] at hso
    exact hso
   ·rw [qV hm]
    rw [qV (by simpa using hm)] at hso
    have e:(fun k'=>decide (k'∈dd (ks.take i)) || decide (k'=ks[i]))=fun k'=>decide (k'∈dd (ks.take i)++[ks[i]]):=by
     funext k'
     rw [Bool.eq_iff_iff]
     simp
    rw [e] at hso
    simpa using hso
  ·have e:ks.take its.toArray.size=ks:=by rw [qA,← hkl];exact List.take_length
   rw [e] at hJ
   have hS:=hJ.setOf ho (by have:=znH ks;rw [qg] at hl;unfold scanBound;omega)
   obtain ⟨o1,es,ep,t,v0,v1,v2,_,_,_,v3,v4⟩:=hS
   rw [ho] at v0
   cases v0
   exact fin _ h' tk o ho ⟨v1,es,ep,t,v2,v3,v4⟩ hk q
theorem zkC:zdJ X (.builtin "len") (fun xs H Q=>∃ p n,xs=[.ref p]/\H p=some (zrX p n)/\n<=300/\Q (.int n) H):=by
 intro pins s σ H xs us Q I r h
 obtain ⟨p,n,rfl,hp,hn,q⟩:=h
 obtain ⟨u,rfl,ru⟩:=zeb r
 cases ru
 obtain ⟨⟨o,ho,hex,es,ep,t,w1,w2,w3⟩,_,_⟩:=I.hok p _ hp
 exact call_len_set ho hex w1 w2 (by omega) ⟨.int n,H,I.tok _,⟨_,by rw [w3]⟩,q⟩
end
end L2
end
section
namespace L2
open PySem PySem.Spec PyProof.Rows ST
def ziI:D->Option D
 | .lst l=>if l.length<=300 then (zhN l).map fun ks=>.int (dd ks).length else none
 | _=>none
section
variable {Γ:Cn} {X:Cx} {e:Expr} {f:FE} {pos p p2 pos2:Pos}
theorem znG (hc:X.calm=true) (hu:X.A.units+66 < cLine) (hgl:Gl X "len") (hml:X.mg "len"=none) (hgs:Gl X "set") (hms:X.mg "set"=none) (h:DE Γ X e f)
  (h1:starEach ([.Call (.Name "set" p2) [e] [] pos2]:List Expr) X.env=(false,eval (.Call (.Name "set" p2) [e] [] pos2) X.env)::starEach [] X.env:=by rfl) (h2:(backTo pos (starEach [] X.env)).any (·.1)=false:=by rfl)
  (h3:starEach ([e]:List Expr) X.env=(false,eval e X.env)::starEach [] X.env:=by rfl) (h4:(backTo pos2 (starEach [] X.env)).any (·.1)=false:=by rfl) :
  DE Γ X (.Call (.Name "len" p) [.Call (.Name "set" p2) [e] [] pos2] [] pos) (b1 ziI f):=⟨by
 refine (ziB zkC hgl hml (by rfl) (zdV (zg1 (zpi hc hu) hgs hms (by rfl) (zdV h.1 zfA h3) (by decide) (by decide) h3 h4) zfA h1) (by decide) (by decide) h1 h2).imp fun σ H Q=>?_
 rintro ⟨G₀,H₀,G,ρ,d,A,hq,k⟩
 unfold b1 at hq
 obtain ⟨x,hx,hl⟩:=oBd hq
 clear hq
 refine ⟨G₀,H₀,G,ρ,x,A,hx,fun v G1 H1 s1 r1=>?_⟩
 unfold ziI at hl
 split at hl
 ·rename_i l
  split at hl
  ·rename_i hz
   obtain ⟨a,vs,rfl,ha,ra⟩:=r1.lst_inv
   have go:∀ (n:Nat),n<=300->d=.int n->∀ p,H1 p=none->∃ p' n',[V.ref p]=[V.ref p']/\(upd H1 p (zrX p n)) p'=some (zrX p' n')/\n'<=300/\Q (.int n') (upd H1 p (zrX p n)):=fun n hn ed p hp=>by
    subst ed
    refine ⟨p,n,rfl,zav,hn,k _ G1 _ (s1.trans (Step.newOwn s1.gh hp)) (.int _)⟩
   refine ⟨a,vs,rfl,s1.gh _ _ ha,by rw [ra.length];exact hz,?_⟩
   obtain ⟨ks,hk,e1⟩:=oMd hl
   refine ⟨ks,zeK ra hk,go _ ?_ e1.symm⟩
   have h5:=znH ks
   have h6:ks.length=l.length:=by
    have:=zeK ra hk
    rw [← ra.length,this,qg]
   omega
  ·cases hl
 ·cases hl⟩
end
end L2
end
section
namespace DT
open PySem PySem.Spec PyProof.Rows
theorem zqW:typeLookup (.type "list") "keys"=pure none:=by rw [typeLookup_type,builtinLookup_eq_fast];kernel_rfl
theorem zqX:typeLookup (.type "list") "__getattr__"=pure none:=by rw [typeLookup_type,builtinLookup_eq_fast];kernel_rfl
theorem zmY {l:Addr} {u:Tok} {R:Result->Shared->Prop} {prog:Program} {w:World} {A:Around} {s:Shared} {xs:Array Value} {n:Nat} (hx:s.heap.get? l=some { cls:=.type "list",data:=.seq xs n }) (hA:A.handled=none)
  (h:∀ h' tk e,Heap.NewAttrErr s.heap h' e (.ref l) "keys"->R (.error (.ref e)) { s with heap:=h',toks:=tk }) :
  codeAny (model prog w) A (.call (.builtin "list.__getattribute__") ⟨[.ref l,.str "keys" u],[]⟩) R s:=by
 obtain ⟨hp,g,d,tk,os⟩:=s
 have hT:(⟨hp,g,d,tk,os⟩:Shared).TypeIs (.ref l) "list":=⟨_,hx,rfl⟩
 have f1:=zqW
 refine codeAny_call_builtin F.slot_list_getattribute.plain F.entry_list_ga (F.slot_list_getattribute.check _ _ _ _ _ _ _ _ hT (F.args_list_getattribute_2 _ _) ?_)
 unfold Builtin.«object.__getattribute__»
 repeat (any_goals (first | assumption | wp_step))
 have hsz:(Str.ofString "keys").length+100<=sizeLine:=by rw [PySem.ofString_length];decide
 refine wpAny_raiseAttrError (A:=A.in1) hA h ?_
 exact attrMsg_fits (by decide +kernel) hsz
set_option maxHeartbeats 4000000 in
theorem zne {l:Addr} {Q:Option Value->Shared->Prop} {prog:Program} {w:World} {A:Around} {E:Value->Shared->Prop} {s:Shared} {xs:Array Value} {n:Nat} (hx:s.heap.get? l=some { cls:=.type "list",data:=.seq xs n }) (hA:A.handled=none)
  (h:∀ h' tk,(∀ b ob,s.heap.get? b=some ob->h'.get? b=some ob)->Q none { s with heap:=h',toks:=tk }) :
  wpAny (model prog w) A (getAttr? (.ref l) "keys") Q E s:=by
 obtain ⟨hp,g,d,tk,os⟩:=s
 have hT:∀ tk',(⟨hp,g,d,tk',os⟩:Shared).TypeIs (.ref l) "list":=fun _=>⟨_,hx,rfl⟩
 have f1:=sub_AttributeError
 have f2:=F.slot_list_getattribute.lookup
 have f3:=F.slot_list_getattribute.bind (.ref l)
 have f5:=zqX
 unfold getAttr? getAttrBy?
 refine qx (wpAny_mkText ?_)
 refine qx (wpAny_attempt ?_)
 unfold getAttrBy
 refine wpAny_holding (qx (wpAny_typeOf (hT _) (qx (wpAny_of_eq f2 ?_))))
 show wpAny _ _ (getAttrByItsOwn _ _ _ _ _ _) _ _ _
 unfold getAttrByItsOwn
 refine qx (m:=hookBefore (Value.type "list")) (qz ?_)
 refine qx (wpAny_attempt (wpAny_holding ?_))
 show wpAny _ _ (boundAndCalled _ _ _) _ _ _
 unfold boundAndCalled
 refine qx (wpAny_of_eq f3 ?_)
 refine wpAny_call (zmY (s:=⟨hp,g,d,tk+1,os⟩) hx hA fun h' tk' e hn=>?_)
 obtain ⟨t',u',he⟩:=hn.there
 have hE:Shared.TypeIs ⟨h',g,d,tk',os⟩ (.ref e) "AttributeError":=⟨_,he,rfl⟩
 show wpAny _ _ (getattributeRaised _ _ _ _ _ _ _) _ _ _
 unfold getattributeRaised
 refine qx (wpAny_isInstance hE f1 ?_)
 simp only [if_true]
 refine qx (m:=hookBehind (Value.type "list") none) (wpAny_of_eq f5 ?_)
 unfold hookOrError attributeErrorLeaves
 simp only [Bool.not_false,if_true]
 refine qx (wpAny_throw ?_)
 refine qx (wpAny_isInstance hE f1 ?_)
 simp only [if_true]
 exact qz (h h' tk' hn.keeps)
end DT
end
section
namespace DT
open PySem PySem.Spec PyProof.Rows
theorem zii:entryFor table "dict.update.loop"=some Builtin.«dict.update.loop»:=entryFor_of_tree (by kernel_rfl)
theorem zeF:plainId "dict.update.loop"=true:=by decide +kernel
section
variable {prog:Program} {w:World} {A:Around} {R:Result->Shared->Prop} {I:Addr} {fp wr:List Addr} {G:Array GenState->Array GenState->Prop} {n:Nat} {P:Nat->Value->Prop} {St:Nat->Shared->Prop}
def ztW (prog:Program) (w:World) (A:Around) (S:Addr) (h0:Heap) (P:Nat->Value->Prop) (n:Nat) (J:Nat->Obj->Prop):Prop :=
 ∀ (i:Nat) (b:Addr) (kv vv:Value) (s:Shared) (o:Obj) (Q:Unit->Shared->Prop) (E:Value->Shared->Prop),i < n->P i (.ref b)->h0.IsTuple b #[kv,vv]->s.heap.get? S=some o->J i o->(∀ b o,b < h0.objs.size->h0.get? b=some o->s.heap.get? b=some o) ->
  (∀ h' tk o',s.toks<=tk->Heap.SameBut S s.heap h'->h'.get? S=some o'->J (i+1) o'->Q () { s with heap:=h',toks:=tk })->wpAny (model prog w) A (dictSet S kv vv) Q E s
theorem zny (W:WalksS prog w A.in1 I fp wr G n P St) (S:Addr) (hSf:S∉fp) (h0:Heap) (hS0:h0.objs.size<=S) (hw0:∀ b∈wr,h0.objs.size<=b) (J:Nat->Obj->Prop) (hadd:ztW prog w A.in1 S h0 P n J) (hP:∀ i v,P i v->∃ b kv vv,v=.ref b/\h0.IsTuple b #[kv,vv]) :
  ∀ (k i:Nat) (c:Int) (s:Shared) (o:Obj),n - i=k->i<=n->St i s->s.heap.get? S=some o->J i o->(∀ b o,b < h0.objs.size->h0.get? b=some o->s.heap.get? b=some o) ->
   (∀ s' o',Moved (S::wr) G s s'->s'.heap.get? S=some o'->J n o'->R (.ok (.ret .none)) s') ->
   codeAny (model prog w) A (.builtin "dict.update.loop" ⟨[.ref S,.ref I,rawInt c,.none],[]⟩) R s:=by
 have hSw:S∉wr:=fun h=>hSf (W.sub _ h)
 have hsub:∀ b∈wr,b∈S::wr:=fun b hb=>qi _ hb
 have keep:∀ {h h':Heap},(∀ b o,b < h0.objs.size->h0.get? b=some o->h.get? b=some o)->(∀ b o,b∉S::wr->h.get? b=some o->h'.get? b=some o)->∀ b o,b < h0.objs.size->h0.get? b=some o->h'.get? b=some o:=fun q1 q2 b o hb e=>q2 b o (fun z=>by
  rcases List.mem_cons.mp z with z | z
  ·rw [z] at hb;exact absurd hb (Nat.not_lt.mpr hS0)
  ·exact absurd hb (Nat.not_lt.mpr (hw0 b z))) (q1 b o hb e)
 intro k
 induction k with
 | zero =>
  intro i c s o hk hi hst hS hJ hB hR
  have hin:i=n:=by omega
  subst hin
  refine codeAny_builtin zii ?_
  rw [Around.under_plainId zeF _]
  show wpAny _ A.in1 (pyNext (.ref I) >>= _) _ _ s
  refine qx (W.done s _ _ hst fun s' hm=>?_)
  show wpAny _ A.in1 (Builtin.Dict.addKeywords S [] >>= _) _ _ s'
  exact qx (qz (qz (hR s' o (hm.mono hsub) (hm.heap S _ hSw hS) hJ)))
 | succ k ih =>
  intro i c s o hk hi hst hS hJ hB hR
  have hlt:i < n:=by omega
  refine codeAny_builtin zii ?_
  rw [Around.under_plainId zeF _]
  show wpAny _ A.in1 (pyNext (.ref I) >>= _) _ _ s
  refine qx (W.item i s _ _ hlt hst fun v s' hPv hst' hm=>?_)
  obtain ⟨b,kv,vv,rfl,hb⟩:=hP i v hPv
  have hB':=keep hB fun b o hb e=>hm.heap b o (fun z=>hb (hsub b z)) e
  obtain ⟨ob,hob,hoc,nn,hod⟩:=hb
  have hob':s'.heap.get? b=some ob:=hB' b ob (qv hob) hob
  have hTb:s'.TypeIs (.ref b) "tuple":=⟨_,hob',hoc⟩
  show wpAny _ A.in1 (holding [Value.ref b] _ >>= _) _ _ s'
  refine qx (wpAny_holding ?_)
  refine qx ?_
  refine wpAny_tryCatch ?_
  unfold Builtin.Dict.pairItems
  refine qx (wpAny_typeOf hTb ?_)
  rw [qU (by decide)]
  refine qx (wpAny_seqItems hob' hod (qz ?_))
  show wpAny _ A.in1 (holding [kv,vv] (dictSet S kv vv)) _ _ s'
  refine wpAny_holding (hadd i b kv vv s' o _ _ hlt hPv ⟨ob,hob,hoc,nn,hod⟩ (hm.heap S _ hSw hS) hJ hB' fun h' tk o' htk hsb hS' hJ'=>?_)
  refine qz ⟨plainId_quiet zeF _,ih (i+1) (c+1) _ o' (by omega) hlt (W.frame _ s' _ _ hst' htk fun b hb o e=>?_) hS' hJ' ?_ fun s'' o'' hm'' hS'' hJ''=>?_⟩
  ·rw [hsb.2 b (fun h:b=S=>hSf (by rw [← h];exact hb))];exact e
  ·refine keep hB' fun b o hb e=>?_
   show h'.get? b=some o
   rw [hsb.2 b (fun h:b=S=>hb (by rw [h];exact qh))];exact e
  ·refine hR s'' o'' (Moved.trans W.gtrans ((hm.mono hsub).then_heap htk fun b o hb e=>?_) hm'') hS'' hJ''
   rw [hsb.2 b (fun h:b=S=>hb (by rw [h];exact qh))];exact e
end
section
variable {prog:Program} {w:World} {A:Around} {E:Value->Shared->Prop} {s:Shared}
theorem call_dict_gen {l:Addr} {items:Array Value} {c:Nat} {Q:Value->Shared->Prop} (hh:A.handled=none) (hl:s.heap.get? l=some { cls:=.type "list",data:=.seq items c }) (J:Nat->Obj->Prop)
  (hJ0:J 0 { cls:=.type "dict",data:=.dict #[] })
  (hadd:∀ A':Around,A'.units<=A.units+16->ztW prog w A' s.heap.objs.size s.heap (fun i v=>items[i]?=some v) items.size J)
  (hP:∀ (i:Nat) (v:Value),items[i]?=some v->∃ b kv vv,v=.ref b/\s.heap.IsTuple b #[kv,vv])
  (h:∀ (h':Heap) (tk:Nat) (o:Obj),h'.get? s.heap.objs.size=some o->J items.size o ->
   (∀ b o,b < s.heap.objs.size->s.heap.get? b=some o->h'.get? b=some o)->Q (.ref s.heap.objs.size) { s with heap:=h',toks:=tk }) :
  wpAny (model prog w) A (call (.type "dict") [.ref l]) Q E s:=by
 refine callType_codes (Q₁:=fun obj s₁=>obj=.ref s.heap.objs.size/\s₁={ s with heap:=s.heap.push { cls:=.type "dict",data:=.dict #[] } }) F.kt_called_dict (F.kt_typeCall_dict_1 _) F.entry_dict_init (kt_code_dict_new _ ⟨rfl,rfl⟩) ?_
 rintro obj s₁ ⟨rfl,rfl⟩
 have hnew:(s.heap.push { cls:=.type "dict",data:=.dict #[] }).get? s.heap.objs.size=some { cls:=.type "dict",data:=.dict #[] }:=qF _ rfl
 have hl1:(s.heap.push { cls:=.type "dict",data:=.dict #[] }).get? l=some { cls:=.type "list",data:=.seq items c }:=qu _ hl
 have hT:Shared.TypeIs { s with heap:=s.heap.push { cls:=.type "dict",data:=.dict #[] } } (.ref s.heap.objs.size) "dict":=⟨_,hnew,rfl⟩
 have hTl:Shared.TypeIs { s with heap:=s.heap.push { cls:=.type "dict",data:=.dict #[] } } (.ref l) "list":=⟨_,hl1,rfl⟩
 refine ⟨hT,F.args_dict_init_2 _ _,?_⟩
 unfold Builtin.«dict.__init__»
 refine qx ?_
 unfold Builtin.Dict.selfAndRest
 refine qx (wpAny_notOrdered_dict hT ?_)
 show wpAny _ _ (pure (s.heap.objs.size,[Value.ref l])) _ _ _
 refine qz ?_
 show wpAny _ _ (Builtin.Dict.updateFrom "dict.__init__" s.heap.objs.size (.ref l) [] .none) _ _ _
 unfold Builtin.Dict.updateFrom
 refine qx (wpAny_typeOf hTl ?_)
 rw [qU (by decide)]
 refine qx (zne (s:={ s with heap:=s.heap.push { cls:=.type "dict",data:=.dict #[] } }) (A:=A.in1.in1) hl1 hh fun h1 tk1 hk1=>?_)
 simp only [Option.isNone_none,if_true]
 refine qx (wpAny_rule ?_)
 have hl2:h1.IsList l items:=⟨_,hk1 _ _ hl1,rfl,_,rfl⟩
 refine qx (wpAny_pyIter_list (s:={ s with heap:=h1,toks:=tk1 }) hl2 ?_)
 refine qz ⟨plainId_quiet zeF _,?_⟩
 have hlS:l < s.heap.objs.size:=qv hl
 have hsz1:s.heap.objs.size < h1.objs.size:=qv (hk1 _ _ hnew)
 have hneI:l≠h1.objs.size:=qB (Nat.lt_trans hlS hsz1)
 have hSf:s.heap.objs.size∉[h1.objs.size,l]:=by
  simp only [qJ,List.mem_singleton,qH,or_false,not_or]
  exact ⟨qB hsz1,Nat.ne_of_gt hlS⟩
 have old:∀ b o,b < s.heap.objs.size->s.heap.get? b=some o->h1.get? b=some o:=fun b o _ e=>hk1 _ _ (qu _ e)
 refine zny ((Walks.list (A:=A.in1.in1) (by simpa using hh) _ l hneI items).toS) s.heap.objs.size hSf s.heap (qw _) (fun b hb=>?_) J (hadd _ (by show A.units+2<=_;omega)) hP (items.size - 0) 0 0 _ _ (by omega) (Nat.zero_le _)
  ⟨⟨_,qF _ rfl,rfl,rfl⟩,hl2.push _⟩ (qu _ (hk1 _ _ hnew)) hJ0 (fun b o hb e=>qu _ (old b o hb e)) fun s' o' hm hS' hJ'=>?_
 ·have:b=h1.objs.size:=by simpa using hb
  rw [this];exact Nat.le_of_lt hsz1
 ·obtain ⟨h',g',d',tk',os'⟩:=s'
  have eg:g'=s.gens:=hm.gens
  have ed:d'=s.drawn:=hm.drawn
  have eo:os'=s.os:=hm.os
  subst eg;subst ed;subst eo
  refine ⟨rfl,h h' tk' o' hS' hJ' fun b o hb e=>hm.heap b o ?_ (qu _ (old b o hb e))⟩
  simp only [qJ,List.mem_singleton,qH,or_false,not_or]
  exact ⟨qB hb,qB (Nat.lt_trans hb hsz1)⟩
end
end DT
end
section
namespace L2
open PySem PySem.Spec PyProof.Rows
section
variable {κ:Type} [DecidableEq κ]
def mrg (kvs ps:List (κ×V)):List (κ×V):=ps.foldl (fun acc kv=>zhK acc kv.1 kv.2) kvs
theorem zlc (kvs ps:List (κ×V)) (p:κ×V):mrg kvs (ps++[p])=zhK (mrg kvs ps) p.1 p.2:=by unfold mrg;rw [List.foldl_append];rfl
theorem zos (kvs:List (κ×V)) (k:κ) (v:V):(zhK kvs k v).length<=kvs.length+1:=by
 unfold zhK
 split
 ·rw [qg];omega
 ·rw [qk,List.length_singleton];omega
theorem zg5:∀ (ps kvs:List (κ×V)),(mrg kvs ps).length<=kvs.length+ps.length
 | [],kvs=>qw _
 | p::ps,kvs=>by
  have h1:=zg5 ps (zhK kvs p.1 p.2)
  have h2:=zos kvs p.1 p.2
  show (mrg (zhK kvs p.1 p.2) ps).length<=_
  rw [qj]
  omega
end
section
variable {X:Cx}
def zpA:List V->Hp->VK->Prop:=fun xs H Q=>∃ (a:Addr) (vs:List V) (ps:List (Key×V)),xs=[.ref a]/\H a=some (.lst vs)/\vs.length=ps.length/\ps.length<=1000/\(∀ (i:Nat) p,ps[i]?=some p->∃ b,vs[i]?=some (.ref b)/\H b=some (.tup [kV p.1,p.2])) /\
 ∀ q,H q=none->Q (.ref q) (upd H q (.dK (mrg [] ps)))
theorem zmJ {pins:List (Addr×Obj)} {σ:St} {H:Hp} {s:Shared} {b:Addr} {x y:V} (I:Inv X pins σ H s) (hb:H b=some (.tup [x,y])):∃ u v,zca x u/\zca y v/\s.heap.IsTuple b #[u,v]:=by
 obtain ⟨its,r,p,_⟩:=I.tuple (.inl (.inl hb))
 cases r with
 | cons r1 r2 =>
  cases r2 with
  | cons r2 r3 =>
   cases r3
   exact ⟨_,_,r1,r2,p⟩
theorem tuple_inj {h:Heap} {b:Addr} {x y:Array Value} (p:h.IsTuple b x) (q:h.IsTuple b y):x=y:=by
 obtain ⟨o,h1,_,n,h2⟩:=p
 obtain ⟨o',g1,_,m,g2⟩:=q
 rw [h1] at g1
 cases g1
 rw [h2] at g2
 cases g2
 rfl
theorem zil (hc:X.calm=true) (hu:X.A.units+66 < cLine):zdJ X (.type "dict") zpA:=by
 intro pins s σ H xs us Q I r h
 obtain ⟨a,vs,ps,rfl,ha,hl,hz,hp,q⟩:=h
 obtain ⟨u,rfl,ru⟩:=zeb r
 cases ru
 obtain ⟨z,its,n,rv,hlen,e⟩:=I.lstM ha
 have hsz:its.toArray.size=ps.length:=by rw [qA,← hlen,hl]
 have hit:∀ (i:Nat) (v:Value),its.toArray[i]?=some v->∃ p b u w,ps[i]?=some p/\v=.ref b/\zca (kV p.1) u/\zca p.2 w/\s.heap.IsTuple b #[u,w]:=fun i v hv=>by
  have hi:i < ps.length:=by rw [← hsz];exact (Array.getElem?_eq_some_iff.mp hv).1
  obtain ⟨b,hb1,hb2⟩:=hp i ps[i] (by simp [hi])
  obtain ⟨u2,hu2,ru2⟩:=rv.get hb1
  have hv':its[i]?=some v:=by simpa using hv
  rw [hu2] at hv'
  cases hv'
  cases ru2
  obtain ⟨u,w,r1,r2,r3⟩:=zmJ I hb2
  exact ⟨ps[i],b,u,w,by simp [hi],rfl,r1,r2,r3⟩
 refine DT.call_dict_gen (I.ok.hd hc) e (fun i o=>∃ vs',KV (mrg [] (ps.take i)) vs'/\o.IsDictOf (zaM X.prog X.w) vs') ?_ (fun A' hA' i b kv vv sh o Q' E' hi hv hb ho hJ hB hQ=>?_) (fun i v hv=>?_) fun h' tk o ho hJ hk=>?_
 ·obtain ⟨o,ho,hd⟩:=Heap.dictOf_iff.mp (Heap.DictOf.new (knd:=zaM X.prog X.w) s.heap)
  have:o={ cls:=.type "dict",data:=.dict #[] }:=by
   have:=qF s.heap (o:={ cls:=.type "dict",data:=.dict #[] }) rfl
   rw [this] at ho
   exact (qG ho).symm
  subst this
  exact ⟨[],.nil,hd⟩
 ·obtain ⟨p,b',u,w,h1,h2,h3,h4,h5⟩:=hit i _ hv
  cases h2
  have e2:=tuple_inj hb h5
  have e3:kv=u/\vv=w:=by simpa using e2
  obtain ⟨rfl,rfl⟩:=e3
  obtain ⟨vs',k1,k2⟩:=hJ
  have hle:vs'.length<=1000:=by
   have q1:=k1.length
   have q2:=zg5 (ps.take i) ([]:List (Key×V))
   rw [qD,qo] at q2
   omega
  refine wpAny_dictSet_pairs (zjE h3) (Heap.dictOf_iff.mpr ⟨o,ho,k2⟩) (fun h' hd' hsb=>?_) (by rw [sizeLine_eq];omega)
  obtain ⟨o',ho',hd''⟩:=Heap.dictOf_iff.mp hd'
  refine hQ h' _ o' (Nat.le_succ _) hsb ho' ⟨_,?_,hd''⟩
  have htk:ps.take (i+1)=ps.take i++[p]:=by rw [List.take_succ,h1];rfl
  rw [htk,zlc]
  exact k1.put p.1 h4
 ·obtain ⟨p,b,u,w,h1,h2,h3,h4,h5⟩:=hit i v hv
  exact ⟨b,u,w,h2,h5⟩
 ·obtain ⟨vs',k1,k2⟩:=hJ
  rw [hsz,List.take_length] at k1
  refine ⟨.ref s.heap.objs.size,_,I.laid (a:=s.heap.objs.size) (o:=.dK (mrg [] ps)) (fun b u e=>hk b u (qv e) e) (qw _) ⟨?_,?_,vs',k1,Heap.dictOf_iff.mpr ⟨o,ho,k2⟩⟩,rfl,q _ I.fresh⟩
  ·have:=zg5 ps ([]:List (Key×V))
   rw [qo] at this
   rw [sizeLine_eq]
   omega
  ·exact beq_eq_false_iff_ne.mpr (Ne.symm (qB I.big))
def zsB:List V->Hp->VK->Prop:=fun xs H Q=>∃ (a:Addr) (vs:List V) (ps:List (List Key×V)),xs=[.ref a]/\H a=some (.lst vs)/\vs.length=ps.length/\ps.length<=1000/\(∀ (i:Nat) p,ps[i]?=some p->∃ b kb,vs[i]?=some (.ref b)/\H b=some (.tup [.ref kb,p.2])/\H kb=some (.tup (p.1.map kV))) /\
 ∀ q,H q=none->Q (.ref q) (upd H q (.dT (mrg [] ps)))
theorem ztb {H:Hp} {P:List Key->Addr->Prop} (hP:∀ k b,H b=some (.tup (k.map kV))->P k b):∀ {kvs:List (List Key×V)} {xs:List (List Key×Addr×Value)},KT H kvs xs->∀ x∈xs,P x.1 x.2.1:=by
 intro kvs xs q
 induction q with
 | nil=>intro x hx;cases hx
 | @cons p y ps ys hq t ih =>
  intro x hx
  rcases List.mem_cons.mp hx with rfl | hx
  ·exact hP _ _ (by rw [← hq.1];exact hq.2.1)
  ·exact ih x hx
theorem zl3 (hc:X.calm=true) (hu:X.A.units+66 < cLine):zdJ X (.type "dict") zsB:=by
 intro pins s σ H xs us Q I r h
 obtain ⟨a,vs,ps,rfl,ha,hl,hz,hp,q⟩:=h
 obtain ⟨u,rfl,ru⟩:=zeb r
 cases ru
 obtain ⟨z,its,n,rv,hlen,e⟩:=I.lstM ha
 have hsz:its.toArray.size=ps.length:=by rw [qA,← hlen,hl]
 have hit:∀ (i:Nat) (v:Value),its.toArray[i]?=some v->∃ p b kb w,ps[i]?=some p/\v=.ref b/\H kb=some (.tup (p.1.map kV))/\zca p.2 w/\s.heap.IsTuple b #[.ref kb,w]:=fun i v hv=>by
  have hi:i < ps.length:=by rw [← hsz];exact (Array.getElem?_eq_some_iff.mp hv).1
  obtain ⟨b,kb,hb1,hb2,hb3⟩:=hp i ps[i] (by simp [hi])
  obtain ⟨u2,hu2,ru2⟩:=rv.get hb1
  have hv':its[i]?=some v:=by simpa using hv
  rw [hu2] at hv'
  cases hv'
  cases ru2
  obtain ⟨u,w,r1,r2,r3⟩:=zmJ I hb2
  cases r1
  exact ⟨ps[i],b,kb,w,by simp [hi],rfl,hb3,r2,r3⟩
 have isk:∀ {h':Heap},(∀ b o,b < s.heap.objs.size->s.heap.get? b=some o->h'.get? b=some o)->∀ k b,H b=some (.tup (k.map kV))->(tupleKind (zaM X.prog X.w)).is h' k b:=fun hB k b hb=>ST.IsTupleKey.mono (zha I.hok hb) fun o e=>hB _ _ (qv e) e
 refine DT.call_dict_gen (I.ok.hd hc) e (fun i o=>∃ xs',KT H (mrg [] (ps.take i)) xs'/\∃ es ep,o.ExactDict/\o.data=.dict es ep/\es.toList=xs'.map (entryOfKey (tupleKind (zaM X.prog X.w)))/\(xs'.map (·.1)).Nodup) ?_ (fun A' hA' i b kv vv sh o Q' E' hi hv hb ho hJ hB hQ=>?_) (fun i v hv=>?_) fun h' tk o ho hJ hk=>?_
 ·exact ⟨[],.nil,#[],0,⟨rfl,rfl,rfl⟩,rfl,rfl,List.nodup_nil⟩
 ·obtain ⟨p,b',kb,w,h1,h2,h3,h4,h5⟩:=hit i _ hv
  cases h2
  have e2:=tuple_inj hb h5
  have e3:kv=.ref kb/\vv=w:=by simpa using e2
  obtain ⟨rfl,rfl⟩:=e3
  obtain ⟨xs',k1,es,ep,k2,k3,k4,k5⟩:=hJ
  have hle:xs'.length<=1000:=by
   have q1:=Paired.length k1
   have q2:=zg5 (ps.take i) ([]:List (List Key×V))
   rw [qD,qo] at q2
   omega
  refine wpAny_dictSet_heap (knd:=tupleKind (zaM X.prog X.w)) (show A'.units < cLine by omega) (isk hB _ _ h3) ⟨o,es,ep,ho,k2,k3,k4,ztb (isk hB) k1,k5⟩ (fun h' hd' hsb=>?_) (by rw [sizeLine_eq];omega)
  obtain ⟨o',es',ep',ho',w2,w3,w4,_,w5⟩:=hd'
  refine hQ h' _ o' (Nat.le_add_right _ _) hsb ho' ⟨_,?_,es',ep',w2,w3,w4,w5⟩
  have htk:ps.take (i+1)=ps.take i++[p]:=by rw [List.take_succ,h1];rfl
  rw [htk,zlc]
  exact k1.put p.1 h3 h4
 ·obtain ⟨p,b,kb,w,h1,h2,h3,h4,h5⟩:=hit i v hv
  exact ⟨b,_,w,h2,h5⟩
 ·obtain ⟨xs',k1,es,ep,k2,k3,k4,k5⟩:=hJ
  rw [hsz,List.take_length] at k1
  refine ⟨.ref s.heap.objs.size,_,I.laid (a:=s.heap.objs.size) (o:=.dT (mrg [] ps)) (fun b u e=>hk b u (qv e) e) (qw _) ⟨?_,?_,xs',k1.keeps fun b ys e=>?_,o,es,ep,ho,k2,k3,k4,k5⟩,rfl,q _ I.fresh⟩
  ·have:=zg5 ps ([]:List (List Key×V))
   rw [qo] at this
   rw [sizeLine_eq]
   omega
  ·exact beq_eq_false_iff_ne.mpr (Ne.symm (qB I.big))
  ·rw [zap (zan e I.fresh)];exact e
end
section
variable {Γ:Cn} {X:Cx}
def zic:List D->Option (List (Key×D))
 | []=>some []
 | .tup [k,v]::r=>(zo4 k).bind fun kk=>(zic r).map ((kk,v)::·)
 | _::_=>none
def zg3:List D->Option (List (List Key×D))
 | []=>some []
 | .tup [.tup t,v]::r=>(zhN t).bind fun kk=>(zg3 r).map ((kk,v)::·)
 | _::_=>none
def ztZ {κ:Type} [DecidableEq κ] (ps:List (κ×D)):List (κ×D):=ps.foldl (fun acc kv=>zki acc kv.1 kv.2) []
def zgm:List D->Option D
 | [.lst l]=>if l.length<=1000 then (zic l).map fun ps=>.dk (ztZ ps) else none
 | _=>none
def zlp:List D->Option D
 | [.lst l]=>if l.length<=1000 then (zg3 l).map fun ps=>.dt (ztZ ps) else none
 | _=>none
theorem zlg {κ:Type} [DecidableEq κ] {K:PySem.W.Frag} {G:Hp}:∀ {us:List (κ×V)} {kvs:List (κ×D)} {acc:List (κ×V)} {acd:List (κ×D)},us.map (·.1)=kvs.map (·.1)->Reps Γ K G (us.map (·.2)) (kvs.map (·.2))->acc.map (·.1)=acd.map (·.1)->Reps Γ K G (acc.map (·.2)) (acd.map (·.2)) ->
  (mrg acc us).map (·.1)=(kvs.foldl (fun acc kv=>zki acc kv.1 kv.2) acd).map (·.1)/\Reps Γ K G ((mrg acc us).map (·.2)) ((kvs.foldl (fun acc kv=>zki acc kv.1 kv.2) acd).map (·.2))
 | [],[],_,_,_,_,e,r=>⟨e,r⟩
 | [],_::_,_,_,e,_,_,_=>by cases e
 | _::_,[],_,_,e,_,_,_=>by cases e
 | (k1,v)::us,(k2,d)::kvs,acc,acd,e,r,e0,r0=>by
  have e1:k1=k2:=(List.cons.inj e).1
  subst e1
  have r:Reps Γ K G (v::us.map (·.2)) (d::kvs.map (·.2)):=r
  cases r with
  | cons r1 r2 =>
   obtain ⟨w1,w2⟩:=znb (k:=k1) r1 e0 r0
   exact zlg (us:=us) (kvs:=kvs) (List.cons.inj e).2 r2 w1 w2
theorem zg4 {K:PySem.W.Frag} {G H:Hp} (gh:zbV G H):∀ {vs:List V} {ds:List D} {ps:List (Key×D)},Reps Γ K G vs ds->zic ds=some ps ->
  ∃ us:List (Key×V),vs.length=us.length/\us.map (·.1)=ps.map (·.1)/\Reps Γ K G (us.map (·.2)) (ps.map (·.2))/\∀ (i:Nat) p,us[i]?=some p->∃ b,vs[i]?=some (.ref b)/\H b=some (.tup [kV p.1,p.2])
 | _,[],ps,r,h=>by cases r;cases h;exact ⟨[],rfl,rfl,.nil,fun i p e=>by simp at e⟩
 | _,d::ds,ps,.cons h1 h2,h=>by
  unfold zic at h
  split at h
  ·rename_i heq;cases heq
  ·rename_i heq
   cases heq
   obtain ⟨kk,hk,h⟩:=oBd h
   obtain ⟨zs,hz,rfl⟩:=oMd h
   obtain ⟨us,q1,q2,q3,q4⟩:=zg4 gh h2 hz
   obtain ⟨a,ws,rfl,ha,ra⟩:=h1.tup_inv
   obtain ⟨x,y,rfl,rx,ry⟩:=ra.two
   have ex:=zhh rx hk
   subst ex
   refine ⟨(kk,y)::us,by rw [qj,qj,q1],by simp [q2],.cons ry q3,fun i p e=>?_⟩
   cases i with
   | zero=>cases e;exact ⟨a,rfl,gh _ _ ha⟩
   | succ i=>exact q4 i p e
  ·cases h
theorem zjw {K:PySem.W.Frag} {G H:Hp} (gh:zbV G H):∀ {vs:List V} {ds:List D} {ps:List (List Key×D)},Reps Γ K G vs ds->zg3 ds=some ps ->
  ∃ us:List (List Key×V),vs.length=us.length/\us.map (·.1)=ps.map (·.1)/\Reps Γ K G (us.map (·.2)) (ps.map (·.2))/\∀ (i:Nat) p,us[i]?=some p->∃ b kb,vs[i]?=some (.ref b)/\H b=some (.tup [.ref kb,p.2])/\H kb=some (.tup (p.1.map kV))
 | _,[],ps,r,h=>by cases r;cases h;exact ⟨[],rfl,rfl,.nil,fun i p e=>by simp at e⟩
 | _,d::ds,ps,.cons h1 h2,h=>by
  unfold zg3 at h
  split at h
  ·rename_i heq;cases heq
  ·rename_i heq
   cases heq
   obtain ⟨kk,hk,h⟩:=oBd h
   obtain ⟨zs,hz,rfl⟩:=oMd h
   obtain ⟨us,q1,q2,q3,q4⟩:=zjw gh h2 hz
   obtain ⟨a,ws,rfl,ha,ra⟩:=h1.tup_inv
   obtain ⟨x,y,rfl,rx,ry⟩:=ra.two
   obtain ⟨kb,ks,rfl,hkb,rk⟩:=rx.tup_inv
   have ex:=zeK rk hk
   subst ex
   refine ⟨(kk,y)::us,by rw [qj,qj,q1],by simp [q2],.cons ry q3,fun i p e=>?_⟩
   cases i with
   | zero=>cases e;exact ⟨a,kb,rfl,gh _ _ ha,gh _ _ hkb⟩
   | succ i=>exact q4 i p e
  ·cases h
theorem zkX (hc:X.calm=true) (hu:X.A.units+66 < cLine):TyD Γ X "dict" zgm:=⟨_,zil hc hu,fun {G H vs ds z} gh r h Q k=>by
 unfold zgm at h
 split at h
 ·split at h
  ·rename_i hz
   obtain ⟨ps,hp,rfl⟩:=oMd h
   obtain ⟨v,rfl,r1⟩:=r.one
   obtain ⟨a,ws,rfl,ha,ra⟩:=r1.lst_inv
   obtain ⟨us,q1,q2,q3,q4⟩:=zg4 gh ra hp
   refine ⟨a,ws,us,rfl,gh _ _ ha,q1,by rw [← q1,ra.length];exact hz,q4,fun p hp=>?_⟩
   have s:=Step.new (o:=.dK (mrg [] us)) gh hp
   obtain ⟨w1,w2⟩:=zlg (acc:=[]) (acd:=[]) q2 q3 rfl .nil
   exact k _ _ _ s (.dk zav w1 (w2.mono s.gg))
  ·cases h
 ·cases h⟩
theorem zof (hc:X.calm=true) (hu:X.A.units+66 < cLine):TyD Γ X "dict" zlp:=⟨_,zl3 hc hu,fun {G H vs ds z} gh r h Q k=>by
 unfold zlp at h
 split at h
 ·split at h
  ·rename_i hz
   obtain ⟨ps,hp,rfl⟩:=oMd h
   obtain ⟨v,rfl,r1⟩:=r.one
   obtain ⟨a,ws,rfl,ha,ra⟩:=r1.lst_inv
   obtain ⟨us,q1,q2,q3,q4⟩:=zjw gh ra hp
   refine ⟨a,ws,us,rfl,gh _ _ ha,q1,by rw [← q1,ra.length];exact hz,q4,fun p hp=>?_⟩
   have s:=Step.new (o:=.dT (mrg [] us)) gh hp
   obtain ⟨w1,w2⟩:=zlg (acc:=[]) (acd:=[]) q2 q3 rfl .nil
   exact k _ _ _ s (.dt zav w1 (w2.mono s.gg))
  ·cases h
 ·cases h⟩
end
end L2
end
section
namespace L2
open PySem PySem.Spec PyProof.Rows
section
variable {Γ:Cn} {X:Cx} {e:Expr} {es:List Expr} {fr:FA} {pos p2:Pos} {x:Str}
def zms (fr:FA):FS:=fun ρ=>(fr ρ).map fun ds=>(.ow ds,ρ)
theorem zrq (h:DO Γ X e fr):DS Γ X (.Return (some e) pos) (zms fr):=⟨(zmz h.1).imp fun E σ H=>by
 rintro ⟨G₀,H₀,G,ρ,fl,ρ',A,h,k⟩
 unfold zms at h
 obtain ⟨ds,hd,h⟩:=oMd h
 cases h
 refine ⟨G₀,H₀,G,ρ,ds,A,hd,fun p vs G' H' s hp r=>?_⟩
 have hp0:H₀ p=none:=A.st.hh.free (s.hh.free hp)
 have hg:G' p=none:=s.gh.free hp
 have s2:=s.trans (Step.newOwn (o:=.lst vs) s.gh hp)
 exact k σ G' _ s.gg (A.step s2) p vs hp0 hg zav r⟩
def spO (Γ:Cn) (K:PySem.W.Frag) (n:Nat) (F:List D->Option (List D)):Sp:=fun vs H Q _=>∃ G ds rs,zbV G H/\Reps Γ K G vs ds/\ds.length=n/\F ds=some rs/\∀ p us G' H',Step G H G' H'->H' p=none->Reps Γ K G' us rs->Q (.ref p) (upd H' p (.lst us))
def zr2 (n:Nat) (g:FS):List D->Option (List D):=fun ds=>(g (ds.map (fun d=>some (Slot.sh d))++List.replicate n none)).bind fun r=>match r.1 with
 | .ow ds=>some ds
 | _=>none
theorem Fun.okO {P:Program} {w:World} {K:PySem.W.Frag} {mg:Str->Option Value} {base:Heap} {x qual:Str} {st:Stmt} {f:Addr} {fd:FuncData} {N ps:List Str} {k:Nat} {g:FS} (F:Fun K x qual st f fd) (S:FnScope N ps (zak st))
  (hbody:∀ (cdv:Value) (A:Around) (outer:List Env) (s:Shared) (H:Hp) (E:XK),Room k (A.deeper (envOfC qual (zak st) s.heap.objs.size f cdv)) ->
   DSs Γ (zj6 CX0 P w K mg base N qual (zak st) f cdv A outer s H E).nox (zbu st) g):FnOk P w K mg base CX0 (k+1) f fd ps (spO Γ K ps.length (zr2 (N.length - ps.length) g)):=by
 refine F.ok S (fun vs H Q E h=>?_) (fun cdv A outer s H vs Q E hr h=>?_)
 ·obtain ⟨G,ds,d,_,r,hl,_⟩:=h
  rw [r.length,hl]
 ·obtain ⟨G,ds,rs,gh,r,hl,hd,k⟩:=h
  refine ⟨_,(hbody cdv A outer s H E hr).1,?_⟩
  unfold zr2 at hd
  obtain ⟨⟨fl,ρ'⟩,hg,hd⟩:=oBd hd
  refine ⟨G,H,G,_,fl,ρ',zgQ gh r (by rw [r.length,hl]),hg,fun σ' G' H' sm A'=>?_⟩
  cases fl with
  | rt d'=>cases hd
  | nx=>cases hd
  | bk=>cases hd
  | ct=>cases hd
  | nw d'=>cases hd
  | od d'=>cases hd
  | ow d' =>
   cases hd
   intro p us hp0 hg hp rr
   have st:Step G H G' (fun b=>if b=p then none else H' b):=by
    refine ⟨fun b o e=>?_,A'.st.gg,fun b o e=>?_,A'.st.out⟩
    ·show (if b=p then none else H' b)=some o
     rw [qV (zan e hp0)];exact A'.st.hh b o e
    ·show (if b=p then none else H' b)=some o
     rw [qV (zan e hg)];exact A'.st.gh b o e
   have:=k p us G' _ st (qU rfl) rr
   have hf:upd (fun b=>if b=p then none else H' b) p (.lst us)=H':=by
    funext b
    by_cases hb:b=p
    ·subst hb;rw [zav,hp]
    ·rw [zap hb];exact qV hb
   rwa [hf] at this
end
structure CalO (Γ:Cn) (P:Program) (w:World) (K:PySem.W.Frag) (mg:Str->Option Value) (base:Heap) (x:Str) (n k:Nat) (F:List D->Option (List D)):Prop where
 ex:∃ f fd ps,FnOk P w K mg base CX0 k f fd ps (spO Γ K n F)/\mg x=some (.ref f)/\PySem.W.keepIn K (.ref f)=true/\zdF K fd ps []
def cFO (F:List D->Option (List D)) (fr:FA):FA:=fun ρ=>(fr ρ).bind F
section
variable {Γ:Cn} {X:Cx} {e:Expr} {es:List Expr} {fr:FA} {pos p:Pos}
theorem zty {x:Str} {n k:Nat} {F:List D->Option (List D)} (C:CalO Γ X.prog X.w X.K X.mg X.base x n k F) {j:Nat} (hr:Room j X.A) (hk:k<=j) (hg:Gl X x) (ha:DA Γ X (e::es) fr) (hn:∀ ρ ds,fr ρ=some ds->ds.length=n)
  (hdb:(x==("__debug__":Str))=false:=by decide) (he:starEach (e::es) X.env=(false,eval e X.env)::starEach es X.env:=by rfl) (hpl:(backTo pos (starEach es X.env)).any (·.1)=false:=by rfl) :
  DO Γ X (.Call (.Name x p) (e::es) [] pos) (cFO F fr):=⟨by
 obtain ⟨f,fd,ps,h1,h2,h3,h4⟩:=C.ex
 refine (zkk h1 (hr.mono hk) hg h2 h3 h4 .nil zlM ha.1 hdb he hpl).imp fun σ H Q=>?_
 rintro ⟨G₀,H₀,G,ρ,d,A,h,k⟩
 unfold cFO at h
 obtain ⟨ds,hd,h⟩:=oBd h
 refine ⟨G₀,H₀,G,ρ,ds,A,hd,fun vs G1 H1 s1 r1=>?_⟩
 show spO Γ X.K n F (vs++[]) H1 Q E0
 rw [List.append_nil]
 exact ⟨G1,ds,d,s1.gh,r1,hn ρ ds hd,h,fun p us G' H' s hp r=>k p us G' H' (s1.trans s) hp r⟩⟩
theorem Dfn.calO {P:Program} {w:World} {K:PySem.W.Frag} {mg:Str->Option Value} {base:Heap} {x:Str} {st:Stmt} {N ps:List Str} {k:Nat} {g:FS} (F:Dfn K mg x st) (S:FnScope N ps (zak st))
  (hb:∀ (kV doc pm:Value) (an:Option Addr) (cdv ct:Value) (us:List Value),us.length=ps.length->bindArgs (PySem.W.fnOf x x (zcC st) (zbu st) (zak st) .none kV doc pm an cdv ct) ⟨us,[]⟩=pure (ps.zip us))
  (hbody:∀ (f:Addr) (cdv:Value) (A:Around) (outer:List Env) (s:Shared) (H:Hp) (E:XK),Room k (A.deeper (envOfC x (zak st) s.heap.objs.size f cdv)) ->
   DSs Γ (zj6 CX0 P w K mg base N x (zak st) f cdv A outer s H E).nox (zbu st) g):CalO Γ P w K mg base x ps.length (k+1) (zr2 (N.length - ps.length) g):=by
 obtain ⟨f,fd,h1,h2⟩:=F.ex
 exact ⟨f,fd,ps,h1.okO S (hbody f),h2,h1.kp,h1.binds hb⟩
theorem Dfn.none {P:Program} {w:World} {K:PySem.W.Frag} {mg:Str->Option Value} {base:Heap} {x:Str} {st:Stmt} {ps:List Str} {k:Nat} (F:Dfn K mg x st)
  (hb:∀ (kV doc pm:Value) (an:Option Addr) (cdv ct:Value) (us:List Value),us.length=ps.length->bindArgs (PySem.W.fnOf x x (zcC st) (zbu st) (zak st) .none kV doc pm an cdv ct) ⟨us,[]⟩=pure (ps.zip us))
  : Cal Γ P w K mg base x ps.length k (fun _=>Option.none):=by
 obtain ⟨f,fd,h1,h2⟩:=F.ex
 refine ⟨f,fd,ps,⟨fun vs H Q E h=>?_,fun A outer s H args us vs Q E hr I b v h=>?_⟩,h2,h1.kp,h1.binds hb⟩
 ·obtain ⟨_,_,_,_,_,_,z,_⟩:=h
  cases z
 ·obtain ⟨_,_,_,_,_,_,z,_⟩:=h
  cases z
end
end L2
end
section
namespace L2
open PySem PySem.Spec PyProof.Rows
def orG (g g':D->D->Option D) (x y:D):Option D:=match g x y with
 | some z=>some z
 | none=>g' x y
section
variable {Γ:Cn} {X:Cx} {a b c e:Expr} {fa fb:FE} {op:CmpOp} {g g':D->D->Option D}
theorem zsU {x y z:D} (h:orG g g' x y=some z):g x y=some z\/g' x y=some z:=by
 unfold orG at h
 split at h
 ·rename_i q;cases h;exact .inl q
 ·exact .inr h
theorem CmpD.or (h:CmpD Γ X op g) (h':CmpD Γ X op g'):CmpD Γ X op (orG g g'):=by
 obtain ⟨r,o,d⟩:=h.ex
 obtain ⟨r',o',d'⟩:=h'.ex
 refine ⟨_,o.or o',fun {G H v u x y z} gh r1 r2 q Q k=>?_⟩
 rcases zsU q with q | q
 ·exact .inl (d gh r1 r2 q Q k)
 ·exact .inr (d' gh r1 r2 q Q k)
def eqA:=orG eqD zuK
def neA:=orG neD zs9
theorem zpY (hu:X.A.units+64 < cLine):CmpD Γ X .Eq eqA:=zf6.or (ztN hu)
theorem zlv (hu:X.A.units+64 < cLine):CmpD Γ X .NotEq neA:=zuN.or (ztL hu)
theorem DfnM.mk' {K:PySem.W.Frag} {C f:Addr} {c m qual:Str} {st:Stmt} {oc:Value} {od an:Option Addr} {osl:Array (Option Value)} {kV doc pm cdv ct:Value} (a:PySem.W.findIn K (.ref C) m=some (some (.ref f))) (i:PySem.W.isFn K (.ref f)=true)
  (l:K.lookup f=some ⟨oc,od,.func (PySem.W.fnOf m qual (zcC st) (zbu st) (zak st) .none kV doc pm an cdv ct),osl⟩) (cd:PySem.W.codeIn K cdv qual=true) (k:PySem.W.keepIn K (.ref f)=true):DfnM K C c m qual st:=⟨f,_,znp l cd k,a,i⟩
end
section
variable {ρ:zaZ} {f1 f2 f3 f4 f5 f6 f7:FE}
theorem ln1:∀ ρ ds,zaa f1 zal ρ=some ds->ds.length=1:=zdh fun _ _ h=>zpq h
theorem ln2:∀ ρ ds,zaa f1 (zaa f2 zal) ρ=some ds->ds.length=2:=zdh ln1
theorem ln3:∀ ρ ds,zaa f1 (zaa f2 (zaa f3 zal)) ρ=some ds->ds.length=3:=zdh ln2
theorem ln4:∀ ρ ds,zaa f1 (zaa f2 (zaa f3 (zaa f4 zal))) ρ=some ds->ds.length=4:=zdh ln3
theorem ln5:∀ ρ ds,zaa f1 (zaa f2 (zaa f3 (zaa f4 (zaa f5 zal)))) ρ=some ds->ds.length=5:=zdh ln4
theorem ln6:∀ ρ ds,zaa f1 (zaa f2 (zaa f3 (zaa f4 (zaa f5 (zaa f6 zal))))) ρ=some ds->ds.length=6:=zdh ln5
theorem ln7:∀ ρ ds,zaa f1 (zaa f2 (zaa f3 (zaa f4 (zaa f5 (zaa f6 (zaa f7 zal)))))) ρ=some ds->ds.length=7:=zdh ln6
end
end L2
end
section
namespace L2
open PySem PySem.Spec PyProof.Rows
section
variable {Γ:Cn} {K:PySem.W.Frag} {G₀ H₀ G H:Hp} {ρ:zaZ} {σ:St}
theorem At.setOdk (A:At Γ K G₀ H₀ G H ρ σ) {i:Nat} {a:Addr} (ha:H a=none):At Γ K G₀ H₀ G (upd H a (.dK [])) (ρ.set i (some (.odk []))) (σ.set i (some (.ref a))):=by
 have h0:H₀ a=none:=A.st.hh.free ha
 have hg:G a=none:=A.gh.free ha
 refine A.put (fp:=[]) (fp':=[a]) (.inl rfl) (fun b o e _=>by rw [zap (zan e ha)];exact e) (.odk (us:=[]) (kvs:=[]) h0 hg zav rfl .nil) (fun b hb=>.inr (by rw [List.mem_singleton.mp hb];exact ha)) (.refl _) (fun b o e=>?_) (fun _ _ _ _=>rfl) (fun b hb=>by cases hb)
 rw [zap (zan e hg)];exact A.gh b o e
theorem At.chOdt (A:At Γ K G₀ H₀ G H ρ σ) {i:Nat} {a:Addr} {kvs kvs':List (List Key×D)} {us':List (List Key×V)} (hi:ρ[i]?=some (some (.odt kvs))) (ha:σ[i]?=some (some (.ref a))) (e:us'.map (·.1)=kvs'.map (·.1)) (r:Reps Γ K G (us'.map (·.2)) (kvs'.map (·.2))):At Γ K G₀ H₀ G (upd H a (.dT us')) (ρ.set i (some (.odt kvs'))) σ:=by
 obtain ⟨v,fp,h1,h2⟩:=A.get hi
 rw [ha] at h1
 cases h1
 cases h2 with
 | odt q1 q2 q3 q4 q5 =>
  refine A.ch hi ha (.odt q1 q2 q3 q4 q5) (fun b o e hb=>?_) (.odt q1 q2 zav e r) (fun b hb=>.inl hb) (.refl _) (fun b o e=>?_) (fun _ _ _ _=>rfl)
  ·rw [zap (fun z=>hb (List.mem_singleton.mpr z))];exact e
  ·rw [zap (zan e q2)];exact A.gh b o e
theorem At.chOdk (A:At Γ K G₀ H₀ G H ρ σ) {i:Nat} {a:Addr} {kvs kvs':List (Key×D)} {us':List (Key×V)} (hi:ρ[i]?=some (some (.odk kvs))) (ha:σ[i]?=some (some (.ref a))) (e:us'.map (·.1)=kvs'.map (·.1)) (r:Reps Γ K G (us'.map (·.2)) (kvs'.map (·.2))):At Γ K G₀ H₀ G (upd H a (.dK us')) (ρ.set i (some (.odk kvs'))) σ:=by
 obtain ⟨v,fp,h1,h2⟩:=A.get hi
 rw [ha] at h1
 cases h1
 cases h2 with
 | odk q1 q2 q3 q4 q5 =>
  refine A.ch hi ha (.odk q1 q2 q3 q4 q5) (fun b o e hb=>?_) (.odk q1 q2 zav e r) (fun b hb=>.inl hb) (.refl _) (fun b o e=>?_) (fun _ _ _ _=>rfl)
  ·rw [zap (fun z=>hb (List.mem_singleton.mpr z))];exact e
  ·rw [zap (zan e q2)];exact A.gh b o e
def zsq:Slot->Option D
 | .odt kvs=>some (.dt kvs)
 | .odk kvs=>some (.dk kvs)
 | _=>none
theorem At.frzD (A:At Γ K G₀ H₀ G H ρ σ) {i:Nat} {s:Slot} {d:D} (hi:ρ[i]?=some (some s)) (hd:zsq s=some d):∃ G',zbV G G'/\At Γ K G₀ H₀ G' H (ρ.set i (some (.sh d))) σ:=by
 obtain ⟨v,fp,h1,h2⟩:=A.get hi
 cases h2 with
 | sh _=>cases hd
 | own _ _ _ _=>cases hd
 | obj _ _ _ _ _ _ _=>cases hd
 | tlo _ _ _ _ _ _=>cases hd
 | oll _ _ _ _ _=>cases hd
 | pin _=>cases hd
 | objd _ _ _ _ _ _ _ _ _ _ _ _=>cases hd
 | odk q1 q2 q3 q4 q5 =>
  cases hd
  rename_i a us kvs
  have sm:zbV G (upd G a (.dK us)):=fun b o e=>by rw [zap (zan e q2)];exact e
  refine ⟨upd G a (.dK us),sm,A.ch hi h1 (.odk q1 q2 q3 q4 q5) (fun b o e hb=>e) (.sh (.dk zav q4 (q5.mono sm))) (fun b hb=>by cases hb) sm (fun b o e=>?_) (fun b o e hb=>?_)⟩
  ·by_cases hb:b=a
   ·subst hb;rw [zav] at e;cases e;exact q3
   ·rw [zap hb] at e;exact A.gh b o e
  ·rw [zap (fun z=>hb (List.mem_singleton.mpr z))]
 | odt q1 q2 q3 q4 q5 =>
  cases hd
  rename_i a us kvs
  have sm:zbV G (upd G a (.dT us)):=fun b o e=>by rw [zap (zan e q2)];exact e
  refine ⟨upd G a (.dT us),sm,A.ch hi h1 (.odt q1 q2 q3 q4 q5) (fun b o e hb=>e) (.sh (.dt zav q4 (q5.mono sm))) (fun b hb=>by cases hb) sm (fun b o e=>?_) (fun b o e hb=>?_)⟩
  ·by_cases hb:b=a
   ·subst hb;rw [zav] at e;cases e;exact q3
   ·rw [zap hb] at e;exact A.gh b o e
  ·rw [zap (fun z=>hb (List.mem_singleton.mpr z))]
end
section
variable {Γ:Cn} {X:Cx} {a b c e value:Expr} {es:List Expr} {f fk fv:FE} {fr:FA} {pos pos' p dp:Pos} {g:FS} {x:Str} {sts:List Stmt}
def ztY (i:Nat):FS:=fun ρ=>some (.nx,ρ.set i (some (.odk [])))
theorem znt (i:Nat) (hN:X.N.Nodup) (hi:X.N[i]?=some x:=by rfl) (hx:Loc X.env.scope x:=by first | exact Or.inl rfl | exact Or.inr rfl) (hs:swapsWith (.Dict [] [] dp) (some (.Name x pos')) pos.line X.env=pure false:=by rfl) (hf:X.fn x=true\/X.env.scope.names.lookup x=some .local:=by first | exact .inl rfl | exact .inr rfl | assumption) :
  DS Γ X (.Assign [.Name x pos'] (.Dict [] [] dp) pos) (ztY i):=⟨(zk4 hN hi hx zk6 hs hf).imp fun E σ H=>by
 rintro ⟨G₀,H₀,G,ρ,fl,ρ',A,h,k⟩ p hp
 cases h
 exact k _ G _ (.refl _) (A.setOdk hp)⟩
def zeS (i:Nat) (fk fv:FE):FS:=fun ρ=>(fv ρ).bind fun d=>(fk ρ).bind fun kd=>match ρ[i]? with
 | some (some (.odt kvs))=>match kd with
  | .tup t=>(zhN t).bind fun ks=>if kvs.length < 100000 then some (.nx,ρ.set i (some (.odt (zki kvs ks d)))) else none
  | _=>none
 | some (some (.odk kvs))=>(zo4 kd).bind fun k=>if kvs.length < 100000 then some (.nx,ρ.set i (some (.odk (zki kvs k d)))) else none
 | _=>none
theorem ziS (i:Nat) (hu:X.A.units+66 < cLine) {vp:Pos} {ke:Expr} (hk:DE Γ X ke fk) (hv':DE Γ X value fv) (hN:X.N[i]?=some x:=by rfl) (hv:Vis X.env.scope x:=by first | exact Or.inl rfl | exact Or.inr (Or.inl rfl) | exact Or.inr (Or.inr rfl)) (hd:(x==("__debug__":Str))=false:=by decide)
  (hcd:(x==("__classdict__":Str))=false:=by decide) (hs:swapsWith value (some (.Subscript (.Name x vp) ke pos')) pos.line X.env=pure false:=by rfl) :
  DS Γ X (.Assign [.Subscript (.Name x vp) ke pos'] value pos) (zeS i fk fv):=⟨(zqz (by omega) (zd6 hN hv hd hcd) hk.1 hv'.1 hs).imp fun E σ H=>by
 rintro ⟨G₀,H₀,G,ρ,flw,ρ',A,h,k⟩
 unfold zeS at h
 obtain ⟨d,hd,ha⟩:=oBd h
 clear h
 obtain ⟨kd,hkd,hq⟩:=oBd ha
 clear ha
 refine ⟨G₀,H₀,G,ρ,d,A,hd,fun v G1 H1 s1 r1=>?_⟩
 have A1:=A.step s1
 split at hq
 ·rename_i kvs hi
  split at hq
  ·rename_i t
   obtain ⟨ks,hks,hq⟩:=oBd hq
   split at hq
   ·rename_i hz
    cases hq
    obtain ⟨w,fp,h1,h2⟩:=A1.get hi
    cases h2 with
    | odt q1 q2 q3 q4 q5 =>
     rename_i a us
     refine ⟨_,h1,G₀,H₀,G1,ρ,_,A1,hkd,fun u G2 H2 s2 r2=>?_⟩
     have A2:=A1.step s2
     obtain ⟨bb,vs,rfl,hb,rb⟩:=r2.tup_inv
     have ev:=zeK rb hks
     subst ev
     have ha2:H2 a=some (.dT us):=s2.hh _ _ q3
     have hlen:us.length=kvs.length:=by simpa using congrArg List.length q4
     obtain ⟨w1,w2⟩:=znb (k:=ks) (r1.mono s2.gg) q4 (q5.mono s2.gg)
     exact ⟨a,_,rfl,zp2.t ha2 (s2.gh _ _ hb) (by have:=sizeLine_eq;omega),k σ G2 _ (s1.gg.trans s2.gg) (A2.chOdt hi h1 w1 w2)⟩
   ·cases hq
  ·cases hq
 ·rename_i kvs hi
  obtain ⟨kk,hkk,hq⟩:=oBd hq
  split at hq
  ·rename_i hz
   cases hq
   obtain ⟨w,fp,h1,h2⟩:=A1.get hi
   cases h2 with
   | odk q1 q2 q3 q4 q5 =>
    rename_i a us
    refine ⟨_,h1,G₀,H₀,G1,ρ,_,A1,hkd,fun u G2 H2 s2 r2=>?_⟩
    have A2:=A1.step s2
    have eu:=zhh r2 hkk
    subst eu
    have ha2:H2 a=some (.dK us):=s2.hh _ _ q3
    have hlen:us.length=kvs.length:=by simpa using congrArg List.length q4
    obtain ⟨w1,w2⟩:=znb (k:=kk) (r1.mono s2.gg) q4 (q5.mono s2.gg)
    exact ⟨a,_,rfl,zp2.k ha2 (by have:=sizeLine_eq;omega),k σ G2 _ (s1.gg.trans s2.gg) (A2.chOdk hi h1 w1 w2)⟩
  ·cases hq
 ·cases hq⟩
def zlI (i:Nat) (g:FS):FS:=fun ρ=>match ρ[i]? with
 | some (some s)=>match zsq s with
  | some d=>g (ρ.set i (some (.sh d)))
  | none=>none
 | _=>none
theorem TDs.frzD (i:Nat):∀ E σ H,TDs Γ X.K (zlI i g) E σ H->TDs Γ X.K g E σ H:=by
 rintro E σ H ⟨G₀,H₀,G,ρ,fl,ρ',A,h,k⟩
 unfold zlI at h
 split at h
 ·rename_i s hi
  split at h
  ·rename_i d hd
   obtain ⟨G',sm,A'⟩:=A.frzD hi hd
   exact ⟨G₀,H₀,G',_,fl,ρ',A',h,fun σ1 G1 H1 sm1 A1=>k σ1 G1 H1 (sm.trans sm1) A1⟩
  ·cases h
 ·cases h
theorem zlo (i:Nat) (h:DSs Γ X sts g):DSs Γ X sts (zlI i g):=⟨h.1.imp (TDs.frzD i)⟩
def zre (f:FE):FA:=fun ρ=>(f ρ).bind zlh
theorem zrz (hg:Gl X "list") (hm:X.mg "list"=none) (h:DE Γ X e f) (he:starEach [e] X.env=(false,eval e X.env)::starEach [] X.env:=by rfl) (hpl:(backTo pos (starEach [] X.env)).any (·.1)=false:=by rfl) :
  DO Γ X (.Call (.Name "list" p) [e] [] pos) (zre f):=⟨(zg1 zjR hg hm (by rfl) (zdV h.1 zfA he) (by decide) (by decide) he hpl).imp fun σ H Q=>by
 rintro ⟨G₀,H₀,G,ρ,ds,A,hq,k⟩
 unfold zre at hq
 obtain ⟨d,hd,hi⟩:=oBd hq
 clear hq
 refine ⟨G₀,H₀,G,ρ,d,A,hd,fun v G1 H1 s1 r1=>?_⟩
 unfold zlh at hi
 split at hi
 ·cases hi
  obtain ⟨a,us,rfl,ha,ra⟩:=r1.lst_inv
  exact ⟨a,us,rfl,.inl (.inl (.inl (s1.gh _ _ ha))),fun p hp=>k p us G1 H1 s1 hp ra⟩
 ·cases hi
  obtain ⟨a,us,rfl,ha,ra⟩:=r1.tup_inv
  exact ⟨a,us,rfl,.inr (.inl (.inl (s1.gh _ _ ha))),fun p hp=>k p us G1 H1 s1 hp ra⟩
 ·cases hi
  obtain ⟨a,rfl,ha⟩:=r1.scr_inv
  exact ⟨a,_,rfl,.inl (s1.gh.seq ha),fun p hp=>k p _ G1 H1 s1 hp (Reps.ints _)⟩
 ·cases hi⟩
end
end L2
end
section
namespace L2
open PySem PySem.Spec PyProof.Rows
section
variable {Γ:Cn} {X:Cx} {e c:Expr} {es:List Expr} {fr:FA} {pos p2 p pos':Pos} {x:Str} {ft:FT}
def zmt (i:Nat):FS:=fun ρ=>match ρ[i]? with
 | some (some (.odk kvs))=>some (.od kvs,ρ)
 | _=>none
theorem zrr (i:Nat) {vp:Pos} (hN:X.N[i]?=some x:=by rfl) (hv:Vis X.env.scope x:=by first | exact Or.inl rfl | exact Or.inr (Or.inl rfl) | exact Or.inr (Or.inr rfl)) (hd:(x==("__debug__":Str))=false:=by decide)
  (hcd:(x==("__classdict__":Str))=false:=by decide):DS Γ X (.Return (some (.Name x vp)) pos) (zmt i):=⟨(zmz (zd6 hN hv hd hcd)).imp fun E σ H=>by
 rintro ⟨G₀,H₀,G,ρ,fl,ρ',A,h,k⟩
 unfold zmt at h
 split at h
 ·rename_i kvs hi
  cases h
  obtain ⟨v,fp,h1,h2⟩:=A.get hi
  cases h2 with
  | odk q1 q2 q3 q4 q5=>exact ⟨_,h1,k σ G H (.refl _) A _ _ q1 q2 q3 q4 q5⟩
 ·cases h⟩
def zuf (Γ:Cn) (K:PySem.W.Frag) (n:Nat) (F:List D->Option (List (Key×D))):Sp:=fun vs H Q _=>∃ G ds rs,zbV G H/\Reps Γ K G vs ds/\ds.length=n/\F ds=some rs/\∀ p us G' H',Step G H G' H'->H' p=none->us.map (·.1)=rs.map (·.1)->Reps Γ K G' (us.map (·.2)) (rs.map (·.2))->Q (.ref p) (upd H' p (.dK us))
def zlJ (n:Nat) (g:FS):List D->Option (List (Key×D)):=fun ds=>(g (ds.map (fun d=>some (Slot.sh d))++List.replicate n none)).bind fun r=>match r.1 with
 | .od kvs=>some kvs
 | _=>none
theorem Fun.okOD {P:Program} {w:World} {K:PySem.W.Frag} {mg:Str->Option Value} {base:Heap} {x qual:Str} {st:Stmt} {f:Addr} {fd:FuncData} {N ps:List Str} {k:Nat} {g:FS} (F:Fun K x qual st f fd) (S:FnScope N ps (zak st))
  (hbody:∀ (cdv:Value) (A:Around) (outer:List Env) (s:Shared) (H:Hp) (E:XK),Room k (A.deeper (envOfC qual (zak st) s.heap.objs.size f cdv)) ->
   DSs Γ (zj6 CX0 P w K mg base N qual (zak st) f cdv A outer s H E).nox (zbu st) g):FnOk P w K mg base CX0 (k+1) f fd ps (zuf Γ K ps.length (zlJ (N.length - ps.length) g)):=by
 refine F.ok S (fun vs H Q E h=>?_) (fun cdv A outer s H vs Q E hr h=>?_)
 ·obtain ⟨G,ds,d,_,r,hl,_⟩:=h
  rw [r.length,hl]
 ·obtain ⟨G,ds,rs,gh,r,hl,hd,k⟩:=h
  refine ⟨_,(hbody cdv A outer s H E hr).1,?_⟩
  unfold zlJ at hd
  obtain ⟨⟨fl,ρ'⟩,hg,hd⟩:=oBd hd
  refine ⟨G,H,G,_,fl,ρ',zgQ gh r (by rw [r.length,hl]),hg,fun σ' G' H' sm A'=>?_⟩
  cases fl with
  | rt d'=>cases hd
  | nx=>cases hd
  | bk=>cases hd
  | ct=>cases hd
  | nw d'=>cases hd
  | ow d'=>cases hd
  | od d' =>
   cases hd
   intro p us hp0 hg hp ek rr
   have st:Step G H G' (fun b=>if b=p then none else H' b):=by
    refine ⟨fun b o e=>?_,A'.st.gg,fun b o e=>?_,A'.st.out⟩
    ·show (if b=p then none else H' b)=some o
     rw [qV (zan e hp0)];exact A'.st.hh b o e
    ·show (if b=p then none else H' b)=some o
     rw [qV (zan e hg)];exact A'.st.gh b o e
   have:=k p us G' _ st (qU rfl) ek rr
   have hf:upd (fun b=>if b=p then none else H' b) p (.dK us)=H':=by
    funext b
    by_cases hb:b=p
    ·subst hb;rw [zav,hp]
    ·rw [zap hb];exact qV hb
   rwa [hf] at this
structure CalD (Γ:Cn) (P:Program) (w:World) (K:PySem.W.Frag) (mg:Str->Option Value) (base:Heap) (x:Str) (n k:Nat) (F:List D->Option (List (Key×D))):Prop where
 ex:∃ f fd ps,FnOk P w K mg base CX0 k f fd ps (zuf Γ K n F)/\mg x=some (.ref f)/\PySem.W.keepIn K (.ref f)=true/\zdF K fd ps []
theorem Dfn.calOD {P:Program} {w:World} {K:PySem.W.Frag} {mg:Str->Option Value} {base:Heap} {x:Str} {st:Stmt} {N ps:List Str} {k:Nat} {g:FS} (F:Dfn K mg x st) (S:FnScope N ps (zak st))
  (hb:∀ (kV doc pm:Value) (an:Option Addr) (cdv ct:Value) (us:List Value),us.length=ps.length->bindArgs (PySem.W.fnOf x x (zcC st) (zbu st) (zak st) .none kV doc pm an cdv ct) ⟨us,[]⟩=pure (ps.zip us))
  (hbody:∀ (f:Addr) (cdv:Value) (A:Around) (outer:List Env) (s:Shared) (H:Hp) (E:XK),Room k (A.deeper (envOfC x (zak st) s.heap.objs.size f cdv)) ->
   DSs Γ (zj6 CX0 P w K mg base N x (zak st) f cdv A outer s H E).nox (zbu st) g):CalD Γ P w K mg base x ps.length (k+1) (zlJ (N.length - ps.length) g):=by
 obtain ⟨f,fd,h1,h2⟩:=F.ex
 exact ⟨f,fd,ps,h1.okOD S (hbody f),h2,h1.kp,h1.binds hb⟩
def dkF (F:List D->Option (List (Key×D))):List D->Option D:=fun ds=>(F ds).map D.dk
theorem CalD.cal {P:Program} {w:World} {K:PySem.W.Frag} {mg:Str->Option Value} {base:Heap} {x:Str} {n k:Nat} {F:List D->Option (List (Key×D))} (C:CalD Γ P w K mg base x n k F):Cal Γ P w K mg base x n k (dkF F):=by
 obtain ⟨f,fd,ps,h1,h2⟩:=C.ex
 refine ⟨f,fd,ps,h1.imp fun vs H Q E hq=>?_,h2⟩
 obtain ⟨G,ds,d,gh,r,hl,hF,k⟩:=hq
 unfold dkF at hF
 obtain ⟨kvs,hk,rfl⟩:=oMd hF
 refine ⟨G,ds,kvs,gh,r,hl,hk,fun p us G' H' s hp ek rr=>?_⟩
 have s2:=Step.new (o:=.dK us) s.gh hp
 exact k _ _ _ (s.trans s2) (.dk zav ek (rr.mono s2.gg))
def zsv (i:Nat) (F:List D->Option (List (Key×D))) (fr:FA):FS:=fun ρ=>((fr ρ).bind F).map fun kvs=>(.nx,ρ.set i (some (.odk kvs)))
theorem At.setOdkV {K:PySem.W.Frag} {G₀ H₀ G H:Hp} {ρ:zaZ} {σ:St} (A:At Γ K G₀ H₀ G H ρ σ) {i:Nat} {a:Addr} {us:List (Key×V)} {kvs:List (Key×D)} (ha:H a=none) (ek:us.map (·.1)=kvs.map (·.1)) (rr:Reps Γ K G (us.map (·.2)) (kvs.map (·.2))):At Γ K G₀ H₀ G (upd H a (.dK us)) (ρ.set i (some (.odk kvs))) (σ.set i (some (.ref a))):=by
 have h0:H₀ a=none:=A.st.hh.free ha
 have hg:G a=none:=A.gh.free ha
 refine A.put (fp:=[]) (fp':=[a]) (.inl rfl) (fun b o e _=>by rw [zap (zan e ha)];exact e) (.odk h0 hg zav ek rr) (fun b hb=>.inr (by rw [List.mem_singleton.mp hb];exact ha)) (.refl _) (fun b o e=>?_) (fun _ _ _ _=>rfl) (fun b hb=>by cases hb)
 rw [zap (zan e hg)];exact A.gh b o e
theorem ztw (i:Nat) {y:Str} {n k:Nat} {F:List D->Option (List (Key×D))} (hN:X.N.Nodup) (C:CalD Γ X.prog X.w X.K X.mg X.base y n k F) {j:Nat} (hr:Room j X.A) (hk:k<=j) (hg:Gl X y) (ha:DA Γ X (e::es) fr) (hn:∀ ρ ds,fr ρ=some ds->ds.length=n)
  (hi:X.N[i]?=some x:=by rfl) (hx:Loc X.env.scope x:=by first | exact Or.inl rfl | exact Or.inr rfl) (hs:swapsWith (.Call (.Name y p) (e::es) [] p2) (some (.Name x pos')) pos.line X.env=pure false:=by rfl) (hf:X.fn x=true\/X.env.scope.names.lookup x=some .local:=by first | exact .inl rfl | exact .inr rfl | assumption)
  (hdb:(y==("__debug__":Str))=false:=by decide) (he:starEach (e::es) X.env=(false,eval e X.env)::starEach es X.env:=by rfl) (hpl:(backTo p2 (starEach es X.env)).any (·.1)=false:=by rfl) :
  DS Γ X (.Assign [.Name x pos'] (.Call (.Name y p) (e::es) [] p2) pos) (zsv i F fr):=⟨by
 obtain ⟨f,fd,ps,h1,h2,h3,h4⟩:=C.ex
 refine (zk4 hN hi hx (zkk h1 (hr.mono hk) hg h2 h3 h4 .nil zlM ha.1 hdb he hpl) hs hf).imp fun E σ H=>?_
 rintro ⟨G₀,H₀,G,ρ,fl,ρ',A,h,k⟩
 unfold zsv at h
 obtain ⟨kvs,hd,h⟩:=oMd h
 obtain ⟨ds,hds,hF⟩:=oBd hd
 cases h
 refine ⟨G₀,H₀,G,ρ,ds,A,hds,fun vs G1 H1 s1 r1=>?_⟩
 show zuf Γ X.K n F (vs++[]) H1 _ E0
 rw [List.append_nil]
 exact ⟨G1,ds,kvs,s1.gh,r1,hn ρ ds hds,hF,fun p us G' H' s hp ek rr=>k _ G' _ (s1.gg.trans s.gg) (((A.step s1).step s).setOdkV hp ek rr)⟩⟩
def zrM (i:Nat) (ft:FT):FT:=fun ρ=>match ρ[i]? with
 | some (some (.odk kvs))=>ft (ρ.set i (some (.sh (.dk kvs))))
 | _=>none
theorem zts (i:Nat) (h:DT Γ X c ft):DT Γ X c (zrM i ft):=⟨h.1.imp fun σ H Q=>by
 rintro ⟨G₀,H₀,G,ρ,b,A,h,k⟩
 unfold zrM at h
 split at h
 ·rename_i kvs hi
  obtain ⟨G1,sm,A1⟩:=A.frzD hi (d:=.dk kvs) rfl
  exact ⟨G₀,H₀,G1,_,b,A1,h,fun G' H' s=>k G H' (s.back A.gh sm)⟩
 ·cases h⟩
def zsx (i:Nat):FS:=fun ρ=>match ρ[i]? with
 | some (some (.odk _))=>some (.nx,ρ.set i (some (.odk [])))
 | _=>none
theorem zmV:MtR X "dict.clear" (fun v vs H Q=>∃ (d:Addr) (us:List (Key×V)),v=.ref d/\vs=[]/\H d=some (.dK us)/\Q .non (upd H d (.dK []))):=by
 intro pins s σ H x xs v us Q I rx rs h
 obtain ⟨d,us,rfl,rfl,hd,q⟩:=h
 cases rx
 cases rs
 exact zrE I hd fun s' I'=>⟨.non,_,I',rfl,q⟩
theorem ztx (i:Nat) {vp apos cpos:Pos} (hN:X.N[i]?=some x:=by rfl) (hv:Vis X.env.scope x:=by first | exact Or.inl rfl | exact Or.inr (Or.inl rfl) | exact Or.inr (Or.inr rfl)) (hd:(x==("__debug__":Str))=false:=by decide)
  (hcd:(x==("__classdict__":Str))=false:=by decide) (hbase:attributeBase (.Name x vp) "clear" X.env (eval (.Name x vp) X.env)=eval (.Name x vp) X.env:=by rfl) (hline:(apos.endLine==cpos.line)=true:=by rfl)
  (hsw:swapsWith (.Call (.Attribute (.Name x vp) "clear" apos) [] [] cpos) none pos.line X.env=pure false:=by rfl) :
  DS Γ X (.Expr (.Call (.Attribute (.Name x vp) "clear" apos) [] [] cpos) pos) (zsx i):=⟨(zkj (zpE PySem.F.plainAttrs_dict PySem.F.slot_dict_clear PySem.F.type_dict_clear zmV (zd6 hN hv hd hcd) hbase hline) hsw).imp fun E σ H=>by
 rintro ⟨G₀,H₀,G,ρ,fl,ρ',A,h,k⟩
 unfold zsx at h
 split at h
 ·rename_i kvs hi
  cases h
  obtain ⟨v,fp,h1,h2⟩:=A.get hi
  cases h2 with
  | odk q1 q2 q3 q4 q5 =>
   exact ⟨_,h1,.inr (.inr (.inl ⟨rfl,.inl ⟨_,q3⟩⟩)),_,_,rfl,rfl,q3,k σ G _ (.refl _) (A.chOdk (us':=[]) (kvs':=[]) hi h1 rfl .nil)⟩
 ·cases h⟩
end
end L2
end
section
namespace L2
open PySem PySem.Spec PyProof.Rows
section
variable {X:Cx} {pins:List (Addr×Obj)} {σ:St} {H H':Hp} {s:Shared} {h':Heap}
theorem Inv.frz {a:Addr} {us:List (Key×V)} {o:Obj} (I:Inv X pins σ H s) (e:H a=some (.dK us)) (ho:s.heap.get? a=some o):Inv X pins σ (upd H a (.frz o (.dK us))) s:=by
 have ne:∀ b u,H b=some u->u≠.dK us->b≠a:=fun b u q n z=>by rw [z,e] at q;cases q;exact n rfl
 have st:∀ {b:Addr} {u:HO},zcn X.prog X.w H s.heap b u->zcn X.prog X.w (upd H a (.frz o (.dK us))) s.heap b u:=fun x =>
  x.stay (fun c v _ r=>r) (fun c r=>by rw [zap (ne c _ r (by intro z;cases z))];exact r) fun c xs r=>by rw [zap (ne c _ r (by intro z;cases z))];exact r
 refine I.un (t':=s.toks) (h':=s.heap) ⟨fun b ob q _ _ _=>q,fun b ob q _ _ _=>⟨ob.slots,q⟩,fun b ob q n _=>?_,fun b ob q _=>⟨ob,q⟩,fun b xs q=>?_,fun b o u q=>?_,fun b ps q=>⟨#[],?_⟩⟩ fun b u q=>?_
 ·rw [zap (fun z=>by rw [z,e] at n;cases n)];exact n
 ·rw [zap (ne b _ q (by intro z;cases z))];exact q
 ·rw [zap (ne b _ q (by intro z;cases z))];exact q
 ·rw [zap (ne b _ q (by intro z;cases z)),q];simp
 ·by_cases hb:b=a
  ·subst hb
   rw [zav] at q
   cases q
   exact ⟨ho,st (I.hok b _ e)⟩
  ·rw [zap hb] at q
   exact st (I.hok b u q)
theorem Inv.unfrz {a:Addr} {us:List (Key×V)} {o:Obj} (I:Inv X pins σ H s) (e:H a=some (.frz o (.dK us))) (hnf:∀ o u,X.H₀ a≠some (.frz o u)):Inv X pins σ (upd H a (.dK us)) s:=by
 have ne:∀ b u,H b=some u->u≠.frz o (.dK us)->b≠a:=fun b u q n z=>by rw [z,e] at q;cases q;exact n rfl
 have nn:∀ b,H b=none->upd H a (.dK us) b=none:=fun b n=>by rw [zap (fun z=>by rw [z,e] at n;cases n)];exact n
 have st:∀ {b:Addr} {u:HO},zcn X.prog X.w H s.heap b u->zcn X.prog X.w (upd H a (.dK us)) s.heap b u:=fun x =>
  x.stay (fun c v _ r=>r) (fun c r=>by rw [zap (ne c _ r (by intro z;cases z))];exact r) fun c xs r=>by rw [zap (ne c _ r (by intro z;cases z))];exact r
 refine ⟨I.ok,I.os,I.bare,⟨I.base.keep,I.base.slot,fun b ob q n hx=>nn b (I.base.free b ob q n hx),I.base.there,fun b xs q=>?_,fun b ob u q=>?_,fun b ps q=>?_⟩,I.loc,I.cell,nn _ I.free,fun x c q=>nn _ (I.freeC x c q),fun p hp=>?_,fun b u q=>?_,I.len⟩
 ·have:=I.base.tups b xs q
  rw [zap (ne b _ this (by intro z;cases z))];exact this
 ·have:=I.base.frzs b ob u q
  rw [zap (fun z=>hnf ob u (by rw [← z];exact q))];exact this
 ·obtain ⟨more,hm⟩:=I.base.tbls b ps q
  exact ⟨more,by rw [zap (ne b _ hm (by intro z;cases z))];exact hm⟩
 ·obtain ⟨p1,p2,p3⟩:=I.pin p hp
  exact ⟨p1,nn _ p2,p3⟩
 ·by_cases hb:b=a
  ·subst hb
   rw [zav] at q
   cases q
   exact st (I.hok b _ e).2
  ·rw [zap hb] at q
   exact st (I.hok b u q)
theorem Inv.nofrz {a:Addr} {us:List (Key×V)} (I:Inv X pins σ H s) (e:H a=some (.dK us)):∀ o u,X.H₀ a≠some (.frz o u):=fun o u q=>by
 have:=I.base.frzs a o u q
 rw [e] at this
 cases this
end
theorem zuA:∀ {us:List (Key×V)} {va:List (Key×Value)} {i:Nat} {k:Key} {v:Value},KV us va->va[i]?=some (k,v)->∃ kv,us[i]?=some kv/\zca kv.2 v:=by
 intro us va i k v r
 induction r generalizing i with
 | nil=>intro e;simp at e
 | cons h t ih =>
  intro e
  cases i with
  | zero=>simp at e;subst e;exact ⟨_,rfl,h.2⟩
  | succ j =>
   obtain ⟨p,z1,z2⟩:=ih (i:=j) (by simpa using e)
   exact ⟨p,by simpa using z1,z2⟩
section
variable {Γ:Cn} {X:Cx} {e c o tg:Expr} {es:List Expr} {fr:FA} {pos p2 p pos' apos cpos:Pos} {x:Str} {ft:FT}
theorem zmT:MtR X "dict.values" (fun v vs H Q=>∃ (d:Addr) (us:List (Key×V)),v=.ref d/\vs=[]/\H d=some (.dK us)/\∀ q,H q=none->Q (.ref q) (upd H q (.ext fun h=>h.IsValuesView q d))):=by
 intro pins s σ H x xs v us Q I rx rs h
 obtain ⟨d,us,rfl,rfl,hd,q⟩:=h
 cases rx
 cases rs
 obtain ⟨z,md,va,qa,da⟩:=zkv I.hok hd
 refine call_meetsIn PySem.F.slot_dict_values da.typeIs PySem.F.entry_dict_values (PySem.F.args_dict_values_1 _) (meets_dict_values (zaM X.prog X.w) d md) ⟨⟨va,da⟩,?_⟩
 refine ⟨.ref s.heap.objs.size,_,I.laid (t':=s.toks) (o:=.ext fun h=>h.IsValuesView s.heap.objs.size d) (fun b u e=>qu _ e) (qw _) ⟨⟨_,qF _ rfl,rfl,rfl⟩,⟨_,qF _ rfl⟩,fun h1 h2 q k=>?_⟩,rfl,q _ I.fresh⟩
 obtain ⟨ob,e,r⟩:=q
 exact ⟨ob,k ob e,r⟩
end
end L2
end
section
namespace L2
open PySem PySem.Spec PyProof.Rows PyProof
section
variable {prog:Program} {w:World} {A:Around} {R:Result->Shared->Prop} {I:Addr} {fp wr:List Addr} {n:Nat} {P:Nat->Value->Prop} {St:Nat->Heap->Prop}
end
section
variable {prog:Program} {w:World} {A:Around} {E:Value->Shared->Prop} {s:Shared}
end
section
variable {Γ:Cn} {X:Cx} {e:Expr} {f:FE} {pos p:Pos}
def zjG:List D->Option (List Int)
 | []=>some []
 | .int x::r=>(zjG r).map (x::·)
 | _::_=>none
theorem zli {K:PySem.W.Frag} {G:Hp}:∀ {vs:List V} {ds:List D} {ys:List Int},Reps Γ K G vs ds->zjG ds=some ys->vs=ys.map V.int
 | _,[],ys,r,h=>by cases r;cases h;rfl
 | _,d::ds,ys,.cons h1 h2,h=>by
  cases d with
  | int x =>
   obtain ⟨zs,hz,rfl⟩:=oMd (show (zjG ds).map (x::·)=some ys from h)
   rw [h1.int_inv,zli h2 hz];rfl
  | _=>cases h
end
end L2
end
section
namespace L2
open PySem PySem.Spec PyProof.Rows
def TDn (Γ:Cn) (K:PySem.W.Frag) (f:FE):TE:=fun σ H Q=>∃ G₀ H₀ G ρ d,At Γ K G₀ H₀ G H ρ σ/\f ρ=some d/\∀ v G' H',Step G H G' H'->Rep Γ K G' v d->NewL H G' v d->Q v H'
structure DN (Γ:Cn) (X:Cx) (e:Expr) (f:FE):Prop where
 out:PE X e (TDn Γ X.K f)
section
variable {Γ:Cn} {X:Cx} {a b c e tg iter:Expr} {es:List Expr} {fa fb fc f fe:FE} {fr fi:FA} {pos p p2 pos':Pos} {ft:FT} {g:FG} {x:Str}
variable {scope:Scope} {N':List Str} {fv:List (Option Nat)} {ifs:List Expr} {elt:Expr}
structure DBn (Γ:Cn) (X:Cx) (N':List Str) (scope:Scope) (tg:Expr) (ifs:List Expr) (elt:Expr) (g:FG) (ft:FT) (fe:FE):Prop where
 out:∀ (cl:List (Str×Addr)) (C:Addr) (s₀:Shared) (H₀:Hp) (fp:List Addr),DG Γ (zdl X N' scope cl C s₀ H₀ fp) tg g/\DTs Γ (zdl X N' scope cl C s₀ H₀ fp) ifs ft/\DN Γ (zdl X N' scope cl C s₀ H₀ fp) elt fe
end
def spN (Γ:Cn) (K:PySem.W.Frag) (n:Nat) (F:List D->Option D):Sp:=fun vs H Q _=>∃ G ds d,zbV G H/\Reps Γ K G vs ds/\ds.length=n/\F ds=some d/\∀ v G' H',Step G H G' H'->Rep Γ K G' v d->NewL H G' v d->Q v H'
section
variable {Γ:Cn} {P:Program} {w:World} {K:PySem.W.Frag} {mg:Str->Option Value} {base:Heap}
structure CalN (Γ:Cn) (P:Program) (w:World) (K:PySem.W.Frag) (mg:Str->Option Value) (base:Heap) (x:Str) (n k:Nat) (F:List D->Option D):Prop where
 ex:∃ f fd ps,FnOk P w K mg base CX0 k f fd ps (spN Γ K n F)/\mg x=some (.ref f)/\PySem.W.keepIn K (.ref f)=true/\zdF K fd ps []
structure CalMN (Γ:Cn) (P:Program) (w:World) (K:PySem.W.Frag) (mg:Str->Option Value) (base:Heap) (c m:Str) (n k:Nat) (F:List D->Option D):Prop where
 ex:∃ C f fd ps,Γ.cls c=some C/\Cls K C/\Meth K C m f/\FnOk P w K mg base CX0 k f fd ps (spN Γ K n F)/\zdF K fd ps []
structure CalMO (Γ:Cn) (P:Program) (w:World) (K:PySem.W.Frag) (mg:Str->Option Value) (base:Heap) (c m:Str) (n k:Nat) (F:List D->Option (List D)):Prop where
 ex:∃ C f fd ps,Γ.cls c=some C/\Cls K C/\Meth K C m f/\FnOk P w K mg base CX0 k f fd ps (spO Γ K n F)/\zdF K fd ps []
end
section
variable {Γ:Cn} {X:Cx} {e o:Expr} {es:List Expr} {fo f:FE} {fr:FA} {pos p apos pos':Pos} {c m x:Str}
end
end L2
end
section
namespace Law
open PySem L2
abbrev oS (d:D):Option Slot:=some (.sh d)
end Law
namespace L2
open PySem
abbrev FQ:=List D->Option D
end L2
namespace Law
open PySem L2
theorem dC {Γ:Cn} {X:Cx} {e:Expr} {es:List Expr} {fr:FA} {p pos:Pos} {x:Str} {n k:Nat} {F:FQ} (C:Cal Γ X.prog X.w X.K X.mg X.base x n k F) {j:Nat} (hr:Room j X.A) (ha:DA Γ X (e::es) fr) (hn:∀ ρ ds,fr ρ=some ds->ds.length=n) (hk:k<=j:=by decide) (hg:Gl X x:=by exact rfl) (hdb:(x==("__debug__":Str))=false:=by decide) (he:starEach (e::es) X.env=(false,eval e X.env)::starEach es X.env:=by rfl) (hpl:(backTo pos (starEach es X.env)).any (·.1)=false:=by rfl):DE Γ X (.Call (.Name x p) (e::es) [] pos) (cF F fr):=zij C hr hk hg ha hn hdb he hpl
end Law
end
section
namespace L2
open PySem PySem.Spec PyProof.Rows
structure Fly (P:Program) (w:World) (base:Heap) (outer:List Env) (H H':Hp) (s:Shared) (B:Heap) (e:Addr) (cls a0:Value) (h:Heap):Prop where
 bst:base.StaysIn B
 keep:∀ b o,s.heap.get? b=some o->H b=none->b∉frs outer->B.get? b=some o
 slot:∀ b o,s.heap.get? b=some o->H b=none->b∈frs outer->∃ sl,h.get? b=some { o with slots:=sl }
 nofl:∀ b o,s.heap.get? b=some o->b∈frs outer->∀ vs,o.data≠.fields vs
 free:∀ b o,s.heap.get? b=some o->H b=none->H' b=none
 there:∀ b o,s.heap.get? b=some o->b∉frs outer->∃ o',B.get? b=some o'
 frf:∀ b∈frs outer,H b=none
 tups:∀ b xs,H b=some (.tup xs)->H' b=some (.tup xs)
 frzs:∀ b o u,H b=some (.frz o u)->H' b=some (.frz o u)
 tbls:∀ b ps,H b=some (.tbl ps)->∃ more,H' b=some (.tbl (ps++more))
 hok:HOk P w H' B
 fly:Heap.FlyingW B outer e cls a0 h
 new:H' e=none
section
variable {P:Program} {w:World} {base B:Heap} {outer:List Env} {H H':Hp} {s:Shared} {e:Addr} {cls a0:Value} {h h':Heap}
end
def CXO (P:Program) (w:World) (base:Heap):CXT:=fun outer H s E e s' =>
 ∃ a cls a0 B H',e=.ref a/\s'.os=s.os/\AllBare s'.gens/\Fly P w base outer H H' s B a cls a0 s'.heap/\E cls none H'
section
variable {P:Program} {w:World} {K:PySem.W.Frag} {mg:Str->Option Value} {base:Heap} {N:List Str} {qual:Str} {scope:Scope} {f:Addr} {cd:Value} {A:Around} {outer:List Env} {s₀:Shared} {H₀:Hp} {E:XK}
 {pins:List (Addr×Obj)} {σ:St} {H:Hp} {s:Shared} {h1:Heap} {e:Addr} {cls:Value} {vs:List Value}
end
end L2
end
section
namespace L2
open PySem PySem.Spec PyProof.Rows
def zuY (Γ:Cn) (K:PySem.W.Frag) (n:String) (R:Hp->Prop) (E:Ends) (H₀ G' H':Hp) (σ':St) (fl:Fl):Prop:=(fl=.rt (.ty n)->R H')/\(fl≠.rt (.ty n)->zuZ Γ K E H₀ G' H' σ' fl)
def TDx (Γ:Cn) (K:PySem.W.Frag) (n:String) (R:Hp->Prop) (g:FS):TS:=fun E σ H=>∃ G₀ H₀ G ρ fl ρ',At Γ K G₀ H₀ G H ρ σ/\g ρ=some (fl,ρ')/\∀ σ' G' H',zbV G G'->At Γ K G₀ H₀ G' H' ρ' σ'->zuY Γ K n R E H₀ G' H' σ' fl
structure DX (Γ:Cn) (X:Cx) (n:String) (R:Hp->Prop) (st:Stmt) (g:FS):Prop where
 out:PS X st (TDx Γ X.K n R g)
structure DXs (Γ:Cn) (X:Cx) (n:String) (R:Hp->Prop) (st:List Stmt) (g:FS):Prop where
 out:PSs X st (TDx Γ X.K n R g)
section
variable {Γ:Cn} {X:Cx} {n:String} {R:Hp->Prop} {c tg iter:Expr} {fi:FA} {pos:Pos} {g g':FS} {st:Stmt} {sts:List Stmt} {ft:FT} {gg:FG}
end
section
variable {Γ:Cn} {P:Program} {w:World} {K:PySem.W.Frag} {mg:Str->Option Value} {base:Heap} {N:List Str} {qual:Str} {scope:Scope} {f C:Addr} {cd:Value} {A:Around} {outer:List Env} {s₀:Shared} {H₀:Hp} {E:XK}
 {R:Hp->Prop} {n:String} {x:Str} {np cpos pos:Pos} {e₀:Expr} {zgL:List Expr} {fr:FA} {Bn newId initId:String} {bmB:List Value}
end
def spX (Γ:Cn) (K:PySem.W.Frag) (m:Nat) (F:FQ) (n:String) (C:Addr):Sp:=fun vs H Q E=>∃ G ds d,zbV G H/\Reps Γ K G vs ds/\ds.length=m/\F ds=some d /\
 (d=.ty n->∀ G' H',Step G H G' H'->E (.ref C) none H')/\(d≠.ty n->∀ v G' H',Step G H G' H'->Rep Γ K G' v d->Q v H')
section
variable {Γ:Cn} {P:Program} {w:World} {K:PySem.W.Frag} {mg:Str->Option Value} {base:Heap}
structure CalX (Γ:Cn) (P:Program) (w:World) (K:PySem.W.Frag) (mg:Str->Option Value) (base:Heap) (x:Str) (m k:Nat) (F:FQ) (n:String) (C:Addr):Prop where
 ex:∃ f fd ps,FnOk P w K mg base (CXO P w base) k f fd ps (spX Γ K m F n C)/\mg x=some (.ref f)/\PySem.W.keepIn K (.ref f)=true/\zdF K fd ps []
end
end L2
end
section
namespace L2
open PySem PySem.Spec PyProof.Rows
def zuW (a:Addr) (cls:Value) (h:Heap):Prop:=∃ o vs,h.get? a=some o/\o.cls=cls/\o.data=.fields vs
section
variable {P:Program} {w:World} {base B:Heap} {outer:List Env} {H H':Hp} {s:Shared} {e:Addr} {cls a0:Value} {h h':Heap}
end
section
variable {X:Cx} {pins:List (Addr×Obj)} {σ:St} {H:Hp} {s:Shared} {v:Value}
end
section
variable {X:Cx} {k:Nat} {f:Addr} {fd:FuncData} {ps:List Str} {sp:Sp} {fx cx n y:Str} {p p2 p3 cp py np ap hp pos:Pos} {e:Expr} {es:List Expr} {t:TA} {cv:Value} {i j:Nat}
end
end L2
end
section
namespace L2
open PySem PySem.Spec PyProof.Rows PySem.W Builtin Builtin.ObjectAttr Builtin.Getset_descriptor
structure ExcK (K:PySem.W.Frag) (C:Addr):Prop where
 cls:∃ cd,clsIn K C=some cd
 ga:findIn K (.ref C) "__getattribute__"=some (some (.builtin "BaseException.__getattribute__"))
 noga:findIn K (.ref C) "__getattr__"=some none
 lk:findIn K (.ref C) "__class__"=some (some (.builtin "object.__class__"))
 gs:specialIn K (.builtin "object.__class__") "__get__"=some (some (.builtin "getset_descriptor.__get__"))
 takes:takesIn K (.builtin "object.__class__")=some true
 mro:mroIn K C (.type "object")=some true
 base:subIn K (.ref C) (.type "BaseException")=some true
section
variable {prog:Program} {w:World} {A:Around} {E:Value->Shared->Prop} {s:Shared} {K:PySem.W.Frag} {x C:Addr} {M:Model} {h:Heap}
end
end L2
end
section
namespace L2
open PySem PySem.Spec PyProof.Rows
section
variable {Γ:Cn} {X:Cx} {a b c e o i:Expr} {es:List Expr} {fa fb fc f fo fk fx:FE} {fr fi:FA} {pos p apos cpos:Pos}
end
end L2
end
section
namespace L2
open PySem PySem.Spec PyProof.Rows
section
variable {Γ:Cn} {X:Cx} {a:Expr} {fa:FE} {pos:Pos}
end
def zu0:V->Option Value
 | .ref a=>some (.ref a)
 | .ty n=>some (.type n)
 | _=>none
inductive TyX (K:PySem.W.Frag) (H:Hp):V->Value->Prop where
 | non:TyX K H .non (.type "NoneType")
 | exc {a C:Addr}:H a=some (.ext (zuW a (.ref C)))->ExcK K C->TyX K H (.ref a) (.ref C)
inductive IsiC (K:PySem.W.Frag) (H:Hp) (t:Value):V->Bool->Prop where
 | one {c:V} {cv:Value} {b:Bool}:zu0 c=some cv->PySem.W.kitOne K t cv=some b->IsiC K H t c b
 | tup {tp:Addr} {xs:List V} {its:List Value} {b:Bool}:H tp=some (.tup xs)->xs.mapM zu0=some its->PySem.W.kitAny K t its=some b->IsiC K H t (.ref tp) b
section
variable {X:Cx}
end
structure RefK (K:PySem.W.Frag) (mg:Str->Option Value) (CP CS CR CY CH CT:Addr):Prop where
 mP:mg "NoPlan"=some (.ref CP)
 mS:mg "ShopError"=some (.ref CS)
 mR:mg "NoRow"=some (.ref CR)
 mY:mg "NoSay"=some (.ref CY)
 mH:mg "NoShop"=some (.ref CH)
 mT:mg "NoTree"=some (.ref CT)
 exm:PySem.W.exmOne K (.ref CP) (.ref CS)=some true
 k0:PySem.W.kitOne K (.type "NoneType") (.ref CP)=some false
 k2:PySem.W.kitOne K (.ref CP) (.type "ValueError")=some true
 k3:PySem.W.kitAny K (.ref CP) [.ref CR,.ref CY,.ref CH,.ref CT]=some false
 exk:ExcK K CP
end L2
end
section
namespace L2
open PySem PySem.Spec PyProof.Rows
end L2
end
section
namespace L2
open PySem PySem.Spec PyProof.Rows
section
variable {α β:Type} {t:Sem α} {f:α->Sem β}
end
end L2
end
section
namespace L2
open PySem PySem.Spec PyProof.Rows PySem.W Builtin Builtin.ObjectAttr
def zu1:List Value:=[.type "ValueError",.type "Exception",.type "BaseException",.type "object"]
structure ExC (h:Heap) (C:Addr):Prop where
 ex:∃ nm q N bs bm sn sub ab col dd k0 k1 k2 k3 k5,h.get? C=some (excClassObj nm q C N bs bm true sn sub ab col dd k0 k1 k2 k3 k5 "ValueError.__new__")/\OwnTail h zu1 bm
section
variable {prog:Program} {w:World} {A:Around} {E:Value->Shared->Prop} {s:Shared} {K:PySem.W.Frag} {C fI e t:Addr}
end
end L2
end
section
namespace L2
open PySem PySem.Spec PyProof.Rows PySem.W Builtin Builtin.ObjectAttr
section
variable {prog:Program} {w:World} {A:Around} {E:Value->Shared->Prop} {s:Shared} {K:PySem.W.Frag} {C fI e t:Addr} {name:Str} {v:Value}
end
end L2
end
section
namespace L2
open PySem PySem.Spec PyProof.Rows PySem.W Builtin Builtin.ObjectAttr Builtin.Getset_descriptor
def zv1 (a C dx:Addr) (h:Heap):Prop:=∃ o vs,h.get? a=some o/\o.cls=.ref C/\o.data=.fields vs/\o.dict=some dx
section
variable {prog:Program} {w:World} {A:Around} {E:Value->Shared->Prop} {s:Shared} {K:PySem.W.Frag} {x C dx:Addr} {name:Str} {v:Value} {mA:Str->Option Value}
end
end L2
end
section
namespace L2
open PySem PySem.Spec PyProof.Rows
structure XCls (K:PySem.W.Frag) (base:Heap) (C CS fI:Addr) (f:Str):Prop where
 cls:ExC base C
 sa:PySem.W.findIn K (.ref C) "__setattr__"=some (some (.builtin "object.__setattr__"))
 cd:∃ cd,PySem.W.clsIn K C=some cd/\cd.mro=.ref C::.ref CS::zu1/\cd.hasDict=true
 ob:PySem.W.mroIn K C (.type "object")=some true
 no:PySem.W.findIn K (.ref C) f=some none
 init:PySem.W.findIn K (.ref C) "__init__"=some (some (.ref fI))
 fn:PySem.W.isFn K (.ref fI)=true
 kp:PySem.W.keepIn K (.ref C)=true
section
variable {X:Cx} {pins:List (Addr×Obj)} {σ:St} {H:Hp} {s:Shared} {a C CS fI dx:Addr} {f:Str} {h':Heap}
variable {o e ea value:Expr} {es:List Expr} {ta tv:TE} {t:TA} {pos pos' p apos np cpos:Pos} {cx x:Str}
end
end L2
end
section
namespace L2
open PySem PySem.Spec PyProof.Rows
def del (G:Hp) (a:Addr):Hp:=fun b=>if b=a then none else G b
theorem zjN {G:Hp} {a b:Addr} (h:b≠a):del G a b=G b:=by unfold del;rw [qV h]
theorem zlr {G:Hp} {a:Addr}:del G a a=none:=by unfold del;rw [qU rfl]
section
variable {X:Cx} {k:Nat} {C CS fI:Addr} {fd:FuncData} {ps:List Str} {f x:Str} {p pos:Pos} {e:Expr} {es:List Expr} {t:TA}
end
section
variable {M:Model} {A:Around} {E:Value->Shared->Prop} {s:Shared} {env:Env}
end
section
variable {prog:Program} {w:World} {A:Around} {E:Value->Shared->Prop} {s:Shared} {env:Env}
end
end L2
end
section
namespace L2
open PySem PySem.Spec PyProof.Rows
def CXD (P:Program) (w:World) (base:Heap):CXT:=fun outer H s E e s' =>
 ∃ a C a0 B H' dx,e=.ref a/\s'.os=s.os/\AllBare s'.gens/\Fly P w base outer H H' s B a (.ref C) a0 s'.heap/\zv1 a C dx s'.heap/\E (.ref C) (some dx) H'
section
variable {P:Program} {w:World} {K:PySem.W.Frag} {mg:Str->Option Value} {base:Heap} {N:List Str} {qual:Str} {scope:Scope} {f:Addr} {cd:Value} {A:Around} {outer:List Env} {s₀:Shared} {H₀:Hp} {E:XK}
 {pins:List (Addr×Obj)} {σ:St} {H:Hp} {s:Shared} {e C t dx:Addr}
end
end L2
end
section
namespace L2
open PySem PySem.Spec PyProof.Rows
def xm (p:Str):D:=.tup [.ty "raise",.str p]
def zuX (Γ:Cn) (K:PySem.W.Frag) (R:Str->Hp->Prop) (E:Ends) (H₀ G' H':Hp) (σ':St) (fl:Fl):Prop:=(∀ p,fl=.rt (xm p)->R p H')/\((∀ p,fl≠.rt (xm p))->zuZ Γ K E H₀ G' H' σ' fl)
def TDy (Γ:Cn) (K:PySem.W.Frag) (R:Str->Hp->Prop) (g:FS):TS:=fun E σ H=>∃ G₀ H₀ G ρ fl ρ',At Γ K G₀ H₀ G H ρ σ/\g ρ=some (fl,ρ')/\∀ σ' G' H',zbV G G'->At Γ K G₀ H₀ G' H' ρ' σ'->zuX Γ K R E H₀ G' H' σ' fl
structure DY (Γ:Cn) (X:Cx) (R:Str->Hp->Prop) (st:Stmt) (g:FS):Prop where
 out:PS X st (TDy Γ X.K R g)
structure DYs (Γ:Cn) (X:Cx) (R:Str->Hp->Prop) (st:List Stmt) (g:FS):Prop where
 out:PSs X st (TDy Γ X.K R g)
section
variable {Γ:Cn} {X:Cx} {R:Str->Hp->Prop} {c:Expr} {pos:Pos} {g g':FS} {st:Stmt} {sts:List Stmt} {ft:FT}
end
section
variable {Γ:Cn} {P:Program} {w:World} {K:PySem.W.Frag} {mg:Str->Option Value} {base:Heap} {N ps:List Str} {qual:Str} {scope:Scope} {f C CS fI:Addr} {fd:FuncData} {cd:Value} {A:Around} {outer:List Env} {s₀:Shared} {H₀:Hp} {E:XK}
 {R:Str->Hp->Prop} {x fl:Str} {np cpos pos:Pos} {e₀:Expr} {fr:FA} {k j:Nat}
end
end L2
end
section
namespace L2
open PySem PySem.Spec PyProof.Rows
def zvD (Γ:Cn) (K:PySem.W.Frag) (C CN:Addr) (f:Str) (n:Nat) (F:FQ):Sp:=fun vs H Q E=>∃ x dx H1 G ds d us,vs=.ref x::us/\H=upd (upd H1 dx (.own x)) x (.ins C dx [])/\H1 x=none/\H1 dx=none/\dx≠x/\zbV G H1/\Reps Γ K G us ds/\ds.length=n/\F ds=some d /\
 (∀ p,d=xm p->∀ G' H' dz,Step G H1 G' H'->H' dz=none->E (.ref CN) (some dz) (upd H' dz (.xd [(f,.str p)])))/\((∀ p,d≠xm p)->∀ G' H',Step G H1 G' H'->Rep Γ K G' (.ref x) d->Q .non H')
section
variable {Γ:Cn} {P:Program} {w:World} {K:PySem.W.Frag} {mg:Str->Option Value} {base:Heap} {c:Str} {attrs:List Str}
structure CalIY (Γ:Cn) (P:Program) (w:World) (K:PySem.W.Frag) (mg:Str->Option Value) (base:Heap) (c:Str) (CN:Addr) (fl:Str) (n k:Nat) (F:FQ):Prop where
 ex:∃ C f fd ps,Γ.cls c=some C/\Mk K C f/\mg c=some (.ref C)/\FnOk P w K mg base (CXD P w base) k f fd ps (zvD Γ K C CN fl n F)/\zdF K fd ps []
end
section
variable {P:Program} {w:World} {base B:Heap} {outer:List Env} {H H':Hp} {s:Shared} {e C dx:Addr} {cls a0:Value} {h:Heap}
end
section
variable {X:Cx} {k:Nat} {f C:Addr} {fd:FuncData} {ps:List Str} {sp:Sp} {fx cx n y:Str} {p p2 p3 cp py np ap hp pos:Pos} {e:Expr} {es:List Expr} {t:TA} {cv:Value} {i j:Nat}
end
end L2
end
section
namespace L2
open PySem PySem.Spec PyProof.Rows
section
variable {X:Cx}
end
mutual
def zfZ (n:Nat):D->Bool
 | .lst l=>(l.length != n) && zgk n l
 | .tup l=>zgk n l
 | .non=>true
 | .bl _=>true
 | .int _=>true
 | .str _=>true
 | _=>false
def zgk (n:Nat):List D->Bool
 | []=>true
 | d::r=>zfZ n d && zgk n r
end
section
variable {Γ:Cn} {K:PySem.W.Frag} {G:Hp} {a:Addr} {ws:List V}
mutual
theorem Rep.del (ha:G a=some (.lst ws)):∀ {v:V} {d:D},Rep Γ K G v d->zfZ ws.length d=true->Rep Γ K (del G a) v d
 | _,_,.non,_=>.non
 | _,_,.bl b,_=>.bl b
 | _,_,.int i,_=>.int i
 | _,_,.str x,_=>.str x
 | _,_,.ty x,h=>by simp [zfZ] at h
 | _,_,.tup g r,h=>.tup (by rw [zjN (fun z=>by rw [z,ha] at g;cases g)];exact g) (Reps.del ha r (by unfold zfZ at h;exact h))
 | _,_,.lst g r,h=>by
  unfold zfZ at h
  rw [Bool.and_eq_true] at h
  exact .lst (by
   rw [zjN (fun z=>by
    rw [z,ha] at g
    cases g
    rw [r.length] at h
    simp at h)]
   exact g) (Reps.del ha r h.2)
 | _,_,.scr g,h=>by simp [zfZ] at h
 | _,_,.dk g e r,h=>by simp [zfZ] at h
 | _,_,.fdk g e r,h=>by simp [zfZ] at h
 | _,_,.dt g e r,h=>by simp [zfZ] at h
 | _,_,.ins g c e r,h=>by simp [zfZ] at h
theorem Reps.del (ha:G a=some (.lst ws)):∀ {vs:List V} {ds:List D},Reps Γ K G vs ds->zgk ws.length ds=true->Reps Γ K (del G a) vs ds
 | _,_,.nil,_=>.nil
 | _,_,.cons g r,h=>by
  unfold zgk at h
  rw [Bool.and_eq_true] at h
  exact .cons (Rep.del ha g h.1) (Reps.del ha r h.2)
end
theorem Reps.set {vs:List V} {ds:List D} (r:Reps Γ K G vs ds) {v:V} {d:D} (h:Rep Γ K G v d):∀ j:Nat,Reps Γ K G (vs.set j v) (ds.set j d):=by
 induction vs generalizing ds with
 | nil=>cases r;intro j;exact .nil
 | cons x xs ih =>
  cases r with
  | cons r1 r2 =>
   intro j
   cases j with
   | zero=>exact .cons h r2
   | succ j=>exact .cons r1 (ih r2 j)
theorem At.freezeE {H₀ G₀ H:Hp} {ρ:zaZ} {σ:St} (A:At Γ K G₀ H₀ G H ρ σ) {i:Nat} {ds:List D} (hi:ρ[i]?=some (some (.own ds))) (h1:σ[i]?=some (some (.ref a))) (q1:H₀ a=none) (q2:G a=none) (q3:H a=some (.lst ws)) (q4:Reps Γ K G ws ds) :
  At Γ K G₀ H₀ (upd G a (.lst ws)) H (ρ.set i (some (.sh (.lst ds)))) σ:=by
 have sm:zbV G (upd G a (.lst ws)):=fun b o e=>by rw [zap (zan e q2)];exact e
 refine A.ch hi h1 (.own q1 q2 q3 q4) (fun b o e hb=>e) (.sh (.lst zav (q4.mono sm))) (fun b hb=>by cases hb) sm (fun b o e=>?_) (fun b o e hb=>?_)
 ·by_cases hb:b=a
  ·subst hb;rw [zav] at e;cases e;exact q3
  ·rw [zap hb] at e;exact A.gh b o e
 ·rw [zap (fun z=>hb (List.mem_singleton.mpr z))]
end
def zkh (i j:Nat) (f:FE):FS:=fun ρ=>match ρ[i]? with
 | some (some (.own ds))=>(f (ρ.set i (some (.sh (.lst ds))))).bind fun d=>if zfZ ds.length d=true/\j < ds.length then some (.nx,ρ.set i (some (.own (ds.set j d)))) else none
 | _=>none
section
variable {Γ:Cn} {X:Cx} {e:Expr} {f:FE} {pos p2 pc:Pos}
theorem zrs (i j:Nat) {x:Str} {vp:Pos} {kk} (h:DE Γ X e f) (hN:X.N[i]?=some x:=by rfl) (hv:Vis X.env.scope x:=by first | exact Or.inl rfl | exact Or.inr (Or.inl rfl) | exact Or.inr (Or.inr rfl)) (hd:(x==("__debug__":Str))=false:=by decide)
  (hcd:(x==("__classdict__":Str))=false:=by decide)
  (hs:swapsWithSole [.Subscript (.Name x vp) (.Constant (.int (j:Int)) kk pc) p2] e pos.line X.env=pure false:=by rfl) (hw:swappedStores [.Subscript (.Name x vp) (.Constant (.int (j:Int)) kk pc) p2] e X.env=pure none:=by rfl) :
  DS Γ X (.Assign [.Subscript (.Name x vp) (.Constant (.int (j:Int)) kk pc) p2] e pos) (zkh i j f):=⟨(zmA h.1 (zsL (zd6 hN hv hd hcd) zmG zom) hs hw).imp fun E σ H=>by
  rintro ⟨G₀,H₀,G,ρ,fl,ρ',A,h,k⟩
  unfold zkh at h
  split at h
  ·rename_i ds hi
   obtain ⟨d,hd,h⟩:=oBd h
   split at h
   ·rename_i hz
    cases h
    obtain ⟨v,fp,h1,h2⟩:=A.get hi
    cases h2 with
    | own q1 q2 q3 q4 =>
     rename_i a vs
     have A1:=A.freezeE hi h1 q1 q2 q3 q4
     have sm:zbV G (upd G a (.lst vs)):=fun b o e=>by rw [zap (zan e q2)];exact e
     refine ⟨G₀,H₀,_,_,d,A1,hd,fun u G2 H2 s2 r2=>?_⟩
     have hG2:G2 a=some (.lst vs):=s2.gg _ _ zav
     have hlen:vs.length=ds.length:=q4.length
     have r3:Rep Γ X.K (del G2 a) u d:=Rep.del hG2 r2 (by rw [hlen];exact hz.1)
     have gg:zbV G (del G2 a):=fun b o q=>by
      have:b≠a:=fun z=>by rw [z,q2] at q;cases q
      rw [zjN this]
      exact s2.gg _ _ (sm _ _ q)
     have st:Step G H (del G2 a) H2:=⟨s2.hh,gg,fun b o q=>by
      by_cases z:b=a
      ·rw [z,zlr] at q;cases q
      ·rw [zjN z] at q;exact s2.gh _ _ q,fun b o q=>by
      by_cases z:b=a
      ·rw [z,zlr,q2]
      ·rw [zjN z,s2.out b o q,zap z]⟩
     have A2:=A.step st
     refine ⟨.ref a,h1,a,vs,j,j,rfl,rfl,s2.hh _ _ q3,?_,?_⟩
     ·unfold ixN
      rw [qU (Int.natCast_nonneg j),qU (by rw [hlen];exact_mod_cast hz.2)]
      rfl
     ·exact k σ _ _ gg (A2.chOwn hi h1 ((q4.mono gg).set r3 j))
   ·cases h
  ·cases h⟩
end
end L2
end
section
namespace L2
open PySem PySem.Spec PyProof.Rows
section
variable {g g':FS} {ft:FT} {fr:FA}
end
structure RefYK (K:PySem.W.Frag) (mg:Str->Option Value) (CN CS CG CM CP CR CY CT:Addr):Prop where
 mN:mg "NoShop"=some (.ref CN)
 mS:mg "ShopError"=some (.ref CS)
 mG:mg "Gone"=some (.ref CG)
 mM:mg "NoName"=some (.ref CM)
 mP:mg "NoPlan"=some (.ref CP)
 mR:mg "NoRow"=some (.ref CR)
 mY:mg "NoSay"=some (.ref CY)
 mT:mg "NoTree"=some (.ref CT)
 exm:PySem.W.exmOne K (.ref CN) (.ref CS)=some true
 k2:PySem.W.kitOne K (.ref CN) (.type "ValueError")=some true
 k3:PySem.W.kitAny K (.ref CN) [.ref CG,.ref CM,.ref CP,.ref CR,.ref CY,.ref CT]=some false
 exk:ExcK K CN
 hd:PySem.W.hasDictIn K CN=true
 no:zeY K CN "part"
end L2
end
section
namespace L2
open PySem PySem.Spec PyProof.Rows
end L2
end
section
namespace L2
open PySem PySem.Spec PyProof.Rows
section
variable {P:Program} {w:World} {K:PySem.W.Frag} {mg:Str->Option Value} {base:Heap} {N:List Str} {qual:Str} {scope:Scope} {f:Addr} {cd:Value} {A:Around} {outer:List Env} {s₀:Shared} {H₀:Hp} {E:XK}
end
section
variable {X:Cx} {k:Nat} {f:Addr} {fd:FuncData} {ps:List Str} {sp:Sp} {fx cx n y:Str} {p p2 p3 cp py np ap hp pos:Pos} {e:Expr} {es:List Expr} {t:TA} {cv:Value} {i j:Nat}
end
def zvC (Γ:Cn) (K:PySem.W.Frag) (CN:Addr) (fl:Str) (n:Nat) (F:FQ):Sp:=fun vs H Q E=>∃ G ds d,zbV G H/\Reps Γ K G vs ds/\ds.length=n/\F ds=some d /\
 (∀ p,d=xm p->∀ G' H' dz,Step G H G' H'->H' dz=none->E (.ref CN) (some dz) (upd H' dz (.xd [(fl,.str p)])))/\((∀ p,d≠xm p)->∀ v G' H',Step G H G' H'->Rep Γ K G' v d->Q v H')
structure CalSY (Γ:Cn) (P:Program) (w:World) (K:PySem.W.Frag) (mg:Str->Option Value) (base:Heap) (x:Str) (CN:Addr) (fl:Str) (n k:Nat) (F:FQ):Prop where
 ex:∃ f fd ps,FnOk P w K mg base (CXD P w base) k f fd ps (zvC Γ K CN fl n F)/\mg x=some (.ref f)/\PySem.W.keepIn K (.ref f)=true/\zdF K fd ps []
end L2
end
section
namespace L2
open PySem PySem.Spec PyProof.Rows
section
variable {Γ:Cn} {X:Cx} {e:Expr} {f:FE} {pos p2 pc:Pos}
end
end L2
end
section
namespace L2
open PySem PySem.Spec PyProof.Rows
structure RefZK (K:PySem.W.Frag) (mg:Str->Option Value) (CN CS CP CR CY:Addr):Prop where
 mN:mg "NoShop"=some (.ref CN)
 mS:mg "ShopError"=some (.ref CS)
 mP:mg "NoPlan"=some (.ref CP)
 mR:mg "NoRow"=some (.ref CR)
 mY:mg "NoSay"=some (.ref CY)
 exm:PySem.W.exmOne K (.ref CN) (.ref CS)=some true
 k2:PySem.W.kitOne K (.ref CN) (.type "ValueError")=some true
 k3:PySem.W.kitAny K (.ref CN) [.ref CP,.ref CR,.ref CY]=some false
 exk:ExcK K CN
 hd:PySem.W.hasDictIn K CN=true
 no:zeY K CN "part"
end L2
end
section
namespace L2
open PySem PySem.Spec PyProof.Rows PyProof
section
variable {Γ:Cn} {X:Cx}
end
end L2
end
section
namespace L2
open PySem PySem.Spec PyProof.Rows
section
variable {Γ:Cn} {X:Cx} {a b:Expr} {fa fb:FE} {pos:Pos}
end
end L2
end
section
namespace L2
open PySem PySem.Spec PyProof.Rows
section
variable {Γ:Cn} {K:PySem.W.Frag} {G:Hp}
end
section
variable {Γ:Cn} {X:Cx} {e:Expr} {f:FE} {g:FS} {pos apos:Pos} {x:Str}
end
end L2
end
section
namespace L2
open PySem PySem.Spec PyProof.Rows
section
variable {Γ:Cn} {X:Cx} {e tg iter:Expr} {es:List Expr} {fr fi:FA} {pos:Pos} {fn:zaZ->Option Nat}
variable {scope:Scope} {N':List Str} {fv:List (Option Nat)} {g:FG} {ft:FT} {ifs:List Expr}
end
end L2
end
section
namespace L2
open PySem PySem.Spec PyProof.Rows
section
variable {Γ:Cn} {X:Cx} {pos p1 p2:Pos}
end
end L2
end
section
namespace L2
open PySem PySem.Spec PyProof.Rows PyProof
section
variable {prog:Program} {w:World} {A:Around} {E:Value->Shared->Prop} {s:Shared}
end
section
variable {Γ:Cn} {X:Cx} {pos:Pos}
end
end L2
end
section
namespace L2
open PySem PySem.Spec PyProof.Rows
section
variable {Γ:Cn} {X:Cx} {pos:Pos} {a b:Expr} {fa fb:FE}
end
end L2
end
section
namespace L2
open PySem PySem.Spec PyProof.Rows
section
variable {Γ:Cn} {X:Cx} {a b:Expr} {fa fb:FE} {pos:Pos}
end
end L2
end
section
namespace L2
open PySem PySem.Spec PyProof.Rows PyProof
def btG (ns:List Int) (i j:Nat):Bool:=decide (ns.getD j 0 < ns.getD i 0)
def zjf (ns:List Int):Int:=ns.getD (argBest (btG ns) (ns.length - 1)) 0
def zhM:D->Option D
 | .dk kvs=>(zjG (kvs.map (·.2))).bind fun ns=>if ns=[] then none else some (.int (zjf ns))
 | _=>none
section
variable {Γ:Cn} {X:Cx} {o:Expr} {fo:FE} {pos p apos cpos:Pos}
theorem znP (hc:X.calm=true):zdJ X (.builtin "max") (fun xs H Q=>∃ (q d:Addr) (us:List (Key×V)) (ns:List Int),xs=[.ref q]/\H q=some (.ext fun h=>h.IsValuesView q d)/\H d=some (.dK us)/\us.map (·.2)=ns.map V.int/\ns≠[]/\Q (.int (zjf ns)) H):=by
 intro pins s σ H xs vs Q I r h
 obtain ⟨q,d,us,ns,rfl,hq,hd,ei,e0,q2⟩:=h
 obtain ⟨u,rfl,ru⟩:=zeb r
 cases ru
 obtain ⟨z,md,va,qa,da⟩:=zkv I.hok hd
 obtain ⟨ep,hat⟩:=da.dictAt
 have hview:s.heap.IsValuesView q d:=(I.hok q _ hq).1
 refine call_max_walk (wpAny_pyIter_values hview hat ?_)
 obtain ⟨od,hod⟩:=(I.hok d _ hd).there
 have ne:d≠s.heap.objs.size:=qB (qv hod)
 have hln:us.length=ns.length:=by simpa using congrArg List.length ei
 have hlv:va.length=ns.length:=by rw [← qa.length,hln]
 have hP:∀ (i:Nat) v,(∃ k,va[i]?=some (k,v))->∃ t,v=.int (ns.getD i 0) t:=fun i v ⟨k,hv⟩=>by
  obtain ⟨kv,h1,h2⟩:=zuA qa hv
  have h3:(us.map (·.2))[i]?=some kv.2:=by rw [qm,h1];rfl
  rw [ei,qm] at h3
  obtain ⟨n,h4,h5⟩:=oMd h3
  rw [← h5] at h2
  rw [List.getD_eq_getElem?_getD,h4]
  exact h2
 refine ⟨s.heap.objs.size,_,_,_,_,_,btG ns,rfl,Walks.dictValues (knd:=zaM X.prog X.w) (A:=X.A.in1) (show X.A.in1.handled=none from I.ok.hd hc) s.heap.objs.size d ne va ep,⟨⟨_,qF _ rfl,rfl,rfl⟩,hat.at' fun o q=>qu _ q⟩,fun b hb=>?_,?_,CmpOf.ints_gt (fun i=>ns.getD i 0) hP,fun v h' tk pv hk=>?_⟩
 ·rw [Heap.size_push]
  simp only [qJ,qH,or_false] at hb
  rcases hb with z | z
  ·rw [z];exact Nat.lt_succ_self _
  ·rw [z];exact Nat.lt_succ_of_lt (qv hod)
 ·rw [hlv];exact List.length_pos_iff.mpr e0
 ·obtain ⟨t,rfl⟩:=hP _ _ pv
  refine ⟨.int (zjf ns),H,I.kept fun b o z=>hk b o ?_ (qu _ z),?_,q2⟩
  ·intro z'
   have:b=s.heap.objs.size:=by simpa using z'
   exact absurd (qv z) (by rw [this];exact Nat.lt_irrefl _)
  ·unfold zjf
   rw [hlv]
   exact ⟨t,rfl⟩
theorem zky (hc:X.calm=true) (hg:Gl X "max") (hm:X.mg "max"=none) (ho:DE Γ X o fo) (hbase:attributeBase o "values" X.env (eval o X.env)=eval o X.env:=by rfl) (hline:(apos.endLine==cpos.line)=true:=by rfl)
  (he:starEach [.Call (.Attribute o "values" apos) [] [] cpos] X.env=(false,eval (.Call (.Attribute o "values" apos) [] [] cpos) X.env)::starEach [] X.env:=by rfl) (hpl:(backTo pos (starEach [] X.env)).any (·.1)=false:=by rfl) :
  DE Γ X (.Call (.Name "max" p) [.Call (.Attribute o "values" apos) [] [] cpos] [] pos) (b1 zhM fo):=⟨(ziB (znP hc) hg hm (by rfl) (zdV (zpE PySem.F.plainAttrs_dict PySem.F.slot_dict_values PySem.F.type_dict_values zmT ho.1 hbase hline) zfA he) (by decide) (by decide) he hpl).imp fun σ H Q=>by
 rintro ⟨G₀,H₀,G,ρ,d,A,h,k⟩
 unfold b1 at h
 obtain ⟨x,hx,h⟩:=oBd h
 refine ⟨G₀,H₀,G,ρ,x,A,hx,fun v G1 H1 s1 r1=>?_⟩
 unfold zhM at h
 split at h
 ·obtain ⟨ns,hn,h⟩:=oBd h
  split at h
  ·cases h
  ·rename_i hne
   cases h
   cases r1 with
   | dk h1 h2 h3 =>
    rename_i kvs ad us
    refine ⟨.inr (.inr (.inl ⟨rfl,.inl ⟨_,s1.gh _ _ h1⟩⟩)),_,_,rfl,rfl,s1.gh _ _ h1,fun q hq=>?_⟩
    have s2:=Step.newOwn (o:=.ext fun h=>h.IsValuesView q ad) s1.gh hq
    exact ⟨q,ad,us,ns,rfl,zav,s2.hh _ _ (s1.gh _ _ h1),zli h3 hn,hne,k _ _ _ (s1.trans s2) (.int _)⟩
 ·cases h⟩
end
end L2
end
section
namespace L2
open PySem PySem.Spec PyProof.Rows PyProof
def zpy (i:Nat) (fk:FE) (gg:FG):FS:=fun ρ=>match ρ[i]? with
 | some (some (.own ds))=>(fk ρ).bind fun k=>match k with
  | .int n=>if 0<=n/\n < 1000000 then (ds[n.toNat]?).bind fun d=>(gg d (ρ.set i (some (.own (ds.eraseIdx n.toNat))))).map fun ρ'=>(.nx,ρ') else none
  | _=>none
 | _=>none
section
variable {Γ:Cn} {X:Cx} {e tg:Expr} {f:FE} {gg:FG} {pos:Pos}
theorem Reps.eraseIdx {K:PySem.W.Frag} {G:Hp}:∀ {vs:List V} {ds:List D},Reps Γ K G vs ds->∀ k:Nat,Reps Γ K G (vs.eraseIdx k) (ds.eraseIdx k)
 | _,_,.nil,_=>.nil
 | _,_,.cons h r,0=>r
 | _,_,.cons h r,k+1=>.cons h (r.eraseIdx k)
theorem ztu (i:Nat) {x:Str} {vp apos cpos:Pos} (h:DE Γ X e f) (hg:DG Γ X tg gg) (hN:X.N[i]?=some x:=by rfl) (hv:Vis X.env.scope x:=by first | exact Or.inl rfl | exact Or.inr (Or.inl rfl) | exact Or.inr (Or.inr rfl)) (hd:(x==("__debug__":Str))=false:=by decide)
  (hcd:(x==("__classdict__":Str))=false:=by decide)
  (hbase:attributeBase (.Name x vp) "pop" X.env (eval (.Name x vp) X.env)=eval (.Name x vp) X.env:=by rfl)
  (hfew:((backTo cpos (starEach [e] X.env)).all (fun x=>!x.1) && (backToKw cpos (keywordEach [] X.env)).all (fun x=>x.1.isSome)
   && decide ([e].length+([]:List Keyword).length+(if ([]:List Keyword).isEmpty then 0 else 1) < 30))=true:=by rfl)
  (hline:(apos.endLine==cpos.line)=true:=by rfl) (hs:starEach [e] X.env=(false,eval e X.env)::starEach [] X.env:=by rfl) (hplain:(backTo cpos (starEach [] X.env)).any (·.1)=false:=by rfl)
  (hsw:swapsWithSole [tg] (.Call (.Attribute (.Name x vp) "pop" apos) [e] [] cpos) pos.line X.env=pure false:=by rfl) (hw:swappedStores [tg] (.Call (.Attribute (.Name x vp) "pop" apos) [e] [] cpos) X.env=pure none:=by rfl)
  (h1:(assignEach [tg] X.env).map (·.2)=[assign tg X.env]:=by rfl) :
  DS Γ X (.Assign [tg] (.Call (.Attribute (.Name x vp) "pop" apos) [e] [] cpos) pos) (zpy i f gg):=⟨(zmA (zqM PySem.F.plainAttrs_list PySem.F.slot_list_pop PySem.F.type_list_pop zoI (zd6 hN hv hd hcd) (zdV h.1 zfA hs) hbase hfew hline hs hplain) hg.pg hsw hw h1).imp fun E σ H=>by
  rintro ⟨G₀,H₀,G,ρ,fl,ρ',A,h,k⟩
  unfold zpy at h
  split at h
  ·rename_i ds hi
   obtain ⟨kd,hk,h⟩:=oBd h
   split at h
   ·rename_i n
    split at h
    ·rename_i hz
     obtain ⟨d,hd,h⟩:=oBd h
     obtain ⟨ρ1,hg1,h⟩:=oMd h
     cases h
     obtain ⟨a,vs,h1,h2,h3,h4,h5⟩:=A.env.own i ds hi
     refine ⟨.ref a,h1,.inl ⟨rfl,vs,.inl (.inl h4)⟩,G₀,H₀,G,ρ,.int n,A,hk,fun v G1 H1 s1 r1=>?_⟩
     have A1:=A.step s1
     have ev:=r1.int_inv
     subst ev
     obtain ⟨y,hy,ry⟩:=h5.get hd
     have hlt:n.toNat < vs.length:=(List.getElem?_eq_some_iff.mp hy).1
     refine ⟨a,vs,n,n.toNat,y,rfl,rfl,s1.hh _ _ h4,by omega,by omega,seqIndex_of hz.1 (by omega),hy,?_⟩
     exact ⟨G₀,H₀,G1,_,d,_,A1.chOwn hi h1 ((h5.mono s1.gg).eraseIdx n.toNat),ry.mono s1.gg,hg1,fun σ' A'=>k σ' G1 _ s1.gg A'⟩
    ·cases h
   ·cases h
  ·cases h⟩
end
end L2
end
section
namespace L2
open PySem PySem.Spec PyProof.Rows PyProof
def ztX:List D->Bool
 | []=>true
 | .bl true::r=>ztX r
 | _=>false
theorem zkW:∀ {l:List D},ztX l=true->∀ x∈l,x=.bl true
 | [],_,x,hx=>by cases hx
 | .bl true::r,h,x,hx=>by
  rcases List.mem_cons.mp hx with e | e
  ·exact e
  ·exact zkW (l:=r) h x e
def zmZ:FQ
 | [.lst l]=>if l.isEmpty=false/\ztX l=true then some (.bl true) else none
 | _=>none
section
variable {Γ:Cn} {X:Cx}
theorem CmpOf.tru {prog:Program} {w:World} {A:Around} {P:Nat->Value->Prop} (hval:∀ i v,P i v->v=.bool true):CmpOf prog w A .Lt P (fun _ _=>false):=fun i j vi vj s Q E hi hj h=>by
 have e1:=hval i vi hi
 have e2:=hval j vj hj
 subst e1 e2
 exact richCompare_gives (op:=.Lt) (PySem.typeIs_bool s _) (PySem.typeIs_bool s _) F.slot_bool_lt F.entry_int_lt (F.args_int_lt_2 _ _) (m:=.val (.bool false)) (.of_eq rfl) (fun x=>nomatch x) h
theorem zkP:∀ {l:List D} {vs:List V} {us:List Value} {K:PySem.W.Frag} {G:Hp},(∀ x∈l,x=.bl true)->Reps Γ K G vs l->zbS vs us->us.length=l.length/\∀ (i:Nat) v,us[i]?=some v->v=.bool true
 | [],_,_,_,_,_,.nil,.nil=>⟨rfl,fun i v h=>by simp at h⟩
 | x::l,_,_,_,_,h,.cons r rs,.cons q qs=>by
  have e:=h x qh
  subst e
  cases r
  cases q
  obtain ⟨h1,h2⟩:=zkP (fun y hy=>h y (qi _ hy)) rs qs
  refine ⟨by rw [qj,qj,h1],fun i v e=>?_⟩
  cases i with
  | zero=>cases e;rfl
  | succ i=>exact h2 i v e
theorem znN (hc:X.calm=true):zdJ X (.builtin "min") (fun xs H Q=>∃ (a:Addr) (vs:List V) (l:List D) (K:PySem.W.Frag) (G:Hp),xs=[.ref a]/\H a=some (.lst vs)/\Reps Γ K G vs l/\l≠[]/\(∀ x∈l,x=.bl true)/\Q (.bl true) H):=by
 intro pins s σ H xs us Q I r h
 obtain ⟨a,vs,l,K,G,rfl,ha,rr,e0,et,q2⟩:=h
 obtain ⟨u,rfl,ru⟩:=zeb r
 cases ru
 obtain ⟨its,rv,pl,_⟩:=I.list (.inl (.inl ha))
 obtain ⟨vl,vi⟩:=zkP et rr rv
 refine call_min_walk (wpAny_pyIter_list pl.isList ?_)
 have ne:a≠s.heap.objs.size:=by obtain ⟨o,_,h1,_⟩:=pl;exact qB (qv h1)
 have hP:∀ (i:Nat) v,its.toArray[i]?=some v->v=.bool true:=fun i v hv=>vi i v (by simpa using hv)
 have la:a < s.heap.objs.size:=by obtain ⟨o,_,h1,_⟩:=pl;exact qv h1
 have sz:its.toArray.size=l.length:=by simp [vl]
 refine ⟨s.heap.objs.size,_,_,_,_,_,fun _ _=>false,rfl,Walks.list (A:=X.A.in1) (show X.A.in1.handled=none from I.ok.hd hc) s.heap.objs.size a ne its.toArray,⟨⟨_,qF _ rfl,rfl,rfl⟩,pl.isList.at fun o q=>qu _ q⟩,fun b hb=>?_,?_,CmpOf.tru hP,fun v h' tk pv hk=>?_⟩
 ·rw [Heap.size_push]
  simp only [qJ,qH,or_false] at hb
  rcases hb with z | z
  ·rw [z];exact Nat.lt_succ_self _
  ·rw [z];exact Nat.lt_succ_of_lt la
 ·rw [sz];exact List.length_pos_iff.mpr e0
 ·have e:=hP _ _ pv
  subst e
  refine ⟨.bl true,H,I.kept fun b o z=>hk b o ?_ (qu _ z),rfl,q2⟩
  intro z'
  have:b=s.heap.objs.size:=by simpa using z'
  exact absurd (qv z) (by rw [this];exact Nat.lt_irrefl _)
theorem zrT (hc:X.calm=true):BltD Γ X "min" zmZ:=⟨_,znN (Γ:=Γ) hc,fun {G H vs ds z} gh r h Q k=>by
 unfold zmZ at h
 split at h
 ·split at h
  ·rename_i hz
   cases h
   obtain ⟨v,rfl,r1⟩:=r.one
   obtain ⟨a,us,rfl,ha,ra⟩:=r1.lst_inv
   exact ⟨a,us,_,_,G,rfl,gh _ _ ha,ra,(fun e=>by rw [e] at hz;exact absurd hz.1 (by decide)),zkW hz.2,k _ G H (.refl gh) (.bl _)⟩
  ·cases h
 ·cases h⟩
end
def zid:FQ
 | [.dk kvs]=>some (.lst (kvs.map fun kv=>zoR kv.1))
 | [.fdk kvs]=>some (.lst (kvs.map fun kv=>zoR kv.1))
 | _=>none
theorem zkQ:∀ {xs:List V} {us:List Value},xs.length=us.length->(∀ (j:Nat) x u,xs[j]?=some x->us[j]?=some u->zca x u)->zbS xs us
 | [],[],_,_=>.nil
 | [],_::_,e,_=>by cases e
 | _::_,[],e,_=>by cases e
 | x::xs,u::us,e,h=>.cons (h 0 x u rfl rfl) (zkQ (by simpa using e) fun j y v h1 h2=>h (j+1) y v h1 h2)
section
variable {Γ:Cn} {X:Cx}
theorem zl2 (hc:X.calm=true):zdJ X (.type "list") (fun xs H Q=>∃ (a:Addr) (us:List (Key×V)),xs=[.ref a]/\Rd H a (.dK us)/\∀ p,H p=none->Q (.ref p) (upd H p (.lst (us.map fun kv=>kV kv.1)))):=by
 intro pins s σ H xs vs Q I r h
 obtain ⟨a,us,rfl,ha,q⟩:=h
 obtain ⟨u,rfl,ru⟩:=zeb r
 cases ru
 obtain ⟨z,md,va,qa,da⟩:=ziT I.hok ha
 obtain ⟨ep,hat⟩:=da.dictAt
 have hlen:us.length=va.length:=qa.length
 refine PySem.W.kdl_call (PySem.W.kdl_dict (knd:=zaM X.prog X.w) (kvs:=va) (ep:=ep) md) (I.ok.hd hc) hat (by omega) fun h' tk acc c hk hL hacc=>?_
 have hl2:acc.toList.length=va.length:=by rw [Array.length_toList];exact hacc.1
 have hno:∀ u,s.heap.get? s.heap.objs.size=some u->False:=fun u e=>Nat.lt_irrefl _ (qv e)
 have hn:=I.none_of hno
 refine ⟨.ref s.heap.objs.size,upd H s.heap.objs.size (.lst (us.map fun kv=>kV kv.1)),I.many (t':=tk) hk (fun b o e=>by rw [zap (zan e hn)];exact e) (fun b o e1 e2=>?_),rfl,q _ hn⟩
 by_cases hb:b=s.heap.objs.size
 ·subst hb
  rw [zav] at e2
  cases e2
  refine ⟨hno,by rw [qg];exact z,acc.toList,c,zkQ (by rw [qg,hl2,hlen]) fun j x u h1 h2=>?_,by rw [Array.toArray_toList];exact hL⟩
  obtain ⟨k,y,g1,g2⟩:=hacc.2 j u (by rw [← Array.getElem?_toList];exact h2)
  rw [qm] at h1
  obtain ⟨kv,g3,rfl⟩:=oMd h1
  have g4:(us.map (·.1))[j]?=(va.map (·.1))[j]?:=by rw [qa.keys]
  rw [qm,qm,g1,g3] at g4
  have g5:kv.1=k:=qG g4
  rw [g5]
  exact zmX g2
 ·rw [zap hb,e1] at e2
  cases e2
theorem ziJ {K:PySem.W.Frag} {G:Hp}:∀ {us:List (Key×V)} {kvs:List (Key×D)},us.map (·.1)=kvs.map (·.1)->Reps Γ K G (us.map fun kv=>kV kv.1) (kvs.map fun kv=>zoR kv.1)
 | [],[],_=>.nil
 | [],_::_,e=>by cases e
 | _::_,[],e=>by cases e
 | u::us,k::kvs,e=>by
  have e1:u.1=k.1:=(List.cons.inj e).1
  exact .cons (show Rep Γ K G (kV u.1) (zoR k.1) by rw [e1];exact zmx _) (ziJ (List.cons.inj e).2)
theorem zoe (hc:X.calm=true):TyD Γ X "list" zid:=⟨_,zl2 hc,fun {G H vs ds z} gh r h Q k=>by
 unfold zid at h
 split at h
 ·cases h
  obtain ⟨v,rfl,r1⟩:=r.one
  cases r1 with
  | dk h1 h2 h3=>exact ⟨_,_,rfl,.inl (gh _ _ h1),zdW gh (ziJ h2) k⟩
 ·cases h
  obtain ⟨v,rfl,r1⟩:=r.one
  cases r1 with
  | fdk h1 h2 h3=>exact ⟨_,_,rfl,.inr ⟨_,gh _ _ h1⟩,zdW gh (ziJ h2) k⟩
 ·cases h⟩
def zgn (ds:List D):Option D:=(zgm ds).bind fun d=>match d with
 | .dk l=>some (.fdk l)
 | _=>none
theorem zl4 (hc:X.calm=true) (hu:X.A.units+66 < cLine):zdJ X (.type "dict") (fun xs H Q=>zpA xs H fun v H'=>∃ (p:Addr) (us:List (Key×V)),v=.ref p/\H p=none/\H'=upd H p (.dK us)/\∀ o,Q (.ref p) (upd H p (.frz o (.dK us)))):=by
 intro pins s σ H xs us Q I r h
 refine thn (zil hc hu pins s σ H xs us _ I r h) fun v s1 ⟨x,H1,I1,r1,p,ks,e1,hp,e2,q⟩=>?_
 subst e1 e2
 obtain ⟨o,ho⟩:=(I1.hok p _ zav).there
 have I2:=I1.frz zav ho
 rw [zp5] at I2
 exact ⟨.ref p,_,I2,r1,q o⟩
theorem zog (hc:X.calm=true) (hu:X.A.units+66 < cLine):TyD Γ X "dict" zgn:=⟨_,zl4 hc hu,fun {G H vs ds z} gh r h Q k=>by
 unfold zgn at h
 obtain ⟨d,hd,h⟩:=oBd h
 unfold zgm at hd
 split at hd
 ·split at hd
  ·rename_i hz
   obtain ⟨ps,hp,rfl⟩:=oMd hd
   cases h
   obtain ⟨v,rfl,r1⟩:=r.one
   obtain ⟨a,ws,rfl,ha,ra⟩:=r1.lst_inv
   obtain ⟨us,q1,q2,q3,q4⟩:=zg4 gh ra hp
   refine ⟨a,ws,us,rfl,gh _ _ ha,q1,by rw [← q1,ra.length];exact hz,q4,fun p hp=>⟨p,mrg [] us,rfl,hp,rfl,fun o=>?_⟩⟩
   have s:=Step.new (o:=.frz o (.dK (mrg [] us))) gh hp
   obtain ⟨w1,w2⟩:=zlg (acc:=[]) (acd:=[]) q2 q3 rfl .nil
   exact k _ _ _ s (.fdk zav w1 (w2.mono s.gg))
  ·cases hd
 ·cases hd⟩
end
end L2
end
section
namespace L2
open PySem PySem.Spec PyProof.Rows PyProof
def Itk (a:Addr) (o:Obj) (us:List (Key×V)):It :=
 ⟨fun i H=>H a=some (.frz o (.dK us))/\i < us.length,fun i H v H'=>H'=H/\∃ kv,us[i]?=some kv/\v=kV kv.1,fun i H=>H a=some (.frz o (.dK us))/\i=us.length⟩
theorem zme {P:Program} {w:World} {K:PySem.W.Frag} {tg:Expr} (a it:Addr) (o:Obj) (us:List (Key×V)) (va:List (Key×Value)) (ep:Nat) (hne:a≠it) (hd:∀ h:Heap,h.get? a=some o->h.DictAt (zaM P w) a va ep) (kv:KV us va) :
  Turn P w K tg (Itk a o us) [it] it (fun i h=>h.IsKeyIter it a i va.length ep) where
 mem:=by simp
 obj:=fun i h st b hb=>by
  have e:b=it:=by simpa using hb
  subst e
  obtain ⟨o,e,c,d⟩:=st
  exact ⟨o,e,fun v z=>by rw [d] at z;cases z⟩
 keep:=fun i h h' st k=>by
  obtain ⟨o,e,r⟩:=st
  exact ⟨o,k it (by simp) o e,r⟩
 item:=by
  intro X hP hw hK hc i pins s σ H E I hf st hg
  subst hP hw hK
  obtain ⟨hfr,hi⟩:=hg
  obtain ⟨f0,f1,f2,f3,f4,f5⟩:=hf it (by simp)
  have ho:s.heap.get? a=some o:=(I.hok a _ hfr).1
  refine (Walks.dictKeys (knd:=zaM X.prog X.w) (I.ok.hd hc) it a hne va ep).item i s _ _ (by rw [← kv.length];exact hi) ⟨st,hd _ ho⟩ fun v h' tk hv st' kk=>?_
  obtain ⟨k,x,hk,hr⟩:=hv
  have hp:(us.map (·.1))[i]?=(va.map (·.1))[i]?:=by rw [kv.keys]
  rw [qm,qm,hk] at hp
  obtain ⟨p,hp1,hp2⟩:=oMd hp
  have hp3:p.1=k:=hp2
  have I1:Inv X pins σ H { s with heap:=h',toks:=tk }:=I.turned (fun b o hb e=>kk b o (by simpa using hb) e) f0 f1 f3 f4 f5
  obtain ⟨oi,e,c,d⟩:=id st'.1
  exact ⟨v,rfl,zoW (s:={ s with heap:=h',toks:=tk }) e c d (by decide) ⟨kV p.1,H,I1,by rw [hp3];exact zmX hr,⟨rfl,p,hp1,rfl⟩,st'.1,fun b hb=>(hf b hb).1⟩⟩
 done:=by
  intro X hP hw hK hc i pins s σ H E I hf st hg
  subst hP hw hK
  obtain ⟨hfr,hi⟩:=hg
  obtain ⟨f0,f1,f2,f3,f4,f5⟩:=hf it (by simp)
  have ho:s.heap.get? a=some o:=(I.hok a _ hfr).1
  have hi':i=va.length:=by rw [← kv.length];exact hi
  subst hi'
  exact (Walks.dictKeys (knd:=zaM X.prog X.w) (I.ok.hd hc) it a hne va ep).done s _ _ ⟨st,hd _ ho⟩ fun h' tk kk=>⟨rfl,I.turned (fun b o hb e=>kk b o (by simpa using hb) e) f0 f1 f3 f4 f5⟩
 self:=fun _ _ _ _ _ st h=>wpAny_pyIter_keyiter st h
def ztc:D->Option (List D)
 | .fdk kvs=>some (kvs.map fun kv=>zoR kv.1)
 | _=>none
def itK (f:FE):FA:=fun ρ=>(f ρ).bind ztc
section
variable {Γ:Cn} {X:Cx} {c e tg iter:Expr} {f:FE} {ft:FT}
theorem zqD {te:TE} (he:PE X iter te):PI X tg iter (fun σ H R=>te σ H fun x H1=>∃ (a:Addr) (o:Obj) (us:List (Key×V)),x=.ref a/\H1 a=some (.frz o (.dK us))/\R (Itk a o us) H1):=by
 intro pins s σ H R I h
 refine thn (he pins s σ H _ I h) fun v s1 ⟨x,H1,I1,r1,a,o,us,e,ha,q⟩=>?_
 subst e
 cases r1
 obtain ⟨z,md,va,qa,da⟩:=ziT I1.hok (.inr ⟨o,ha⟩)
 obtain ⟨ep,hat⟩:=da.dictAt
 have ho:s1.heap.get? a=some o:=(I1.hok a _ ha).1
 refine wpAny_pyIter_dict md hat ?_
 refine ⟨s1.heap.objs.size,[s1.heap.objs.size],_,_,H1,rfl,I1.kept (t':=s1.toks) fun b u e=>qu _ e,zme a s1.heap.objs.size o us va ep (qB (qv ho)) (fun h' e=>hat.at' fun o' e'=>by rw [ho] at e';cases e';exact e) qa,⟨_,qF _ rfl,rfl,rfl⟩,fun b hb=>?_,q⟩
 have e:b=s1.heap.objs.size:=by simpa using hb
 subst e
 exact I1.fpOk (qw _) (I1.hok.fresh (qw _))
theorem znA (h:DE Γ X iter f):DI Γ X tg iter (itK f):=⟨(zqD h.1).imp fun σ H R=>by
 rintro ⟨G₀,H₀,G,ρ,ds,A,h,k⟩
 unfold itK at h
 obtain ⟨d,hd,h⟩:=oBd h
 refine ⟨G₀,H₀,G,ρ,d,A,hd,fun v G' H' s r=>?_⟩
 unfold ztc at h
 split at h
 ·cases h
  cases r with
  | fdk h1 h2 h3 =>
   rename_i kvs a o us
   have hln:us.length=kvs.length:=by simpa using congrArg List.length h2
   refine ⟨_,_,_,rfl,s.gh _ _ h1,k _ G' H' s ⟨fun i d G2 H2 hd g1 g2=>?_,fun G2 H2 g1 g2=>⟨g2 _ _ (g1 _ _ h1),by rw [qg,hln]⟩⟩⟩
   rw [qm] at hd
   obtain ⟨kd,hkd,rfl⟩:=oMd hd
   have hi:i < us.length:=by rw [hln];exact (List.getElem?_eq_some_iff.mp hkd).1
   refine ⟨⟨g2 _ _ (g1 _ _ h1),hi⟩,fun x H3 ⟨e1,kv,hkv,ev⟩=>?_⟩
   subst e1 ev
   have ek:kv.1=kd.1:=by
    have:=congrArg (fun l=>l[i]?) h2
    simp only [qm,hkv,hkd,qf,Option.some.injEq] at this
    exact this
   exact ⟨G2,.refl g2,by rw [ek];exact zmx _⟩
 ·cases h⟩
def zrK (i:Nat) (ft:FT):FT:=fun ρ=>match ρ[i]? with
 | some (some (.odk kvs))=>ft (ρ.set i (some (.sh (.fdk kvs))))
 | _=>none
theorem ztr (i:Nat) (h:DT Γ X c ft):DT Γ X c (zrK i ft):=⟨fun pins s σ H Q I q=>by
 obtain ⟨G₀,H₀,G,ρ,b,A,hq,k⟩:=q
 unfold zrK at hq
 split at hq
 ·rename_i kvs hi
  obtain ⟨v,fp,h1,h2⟩:=A.get hi
  cases h2 with
  | odk q1 q2 q3 q4 q5 =>
   rename_i a us
   have hnf:=I.nofrz q3
   obtain ⟨ob,hob⟩:=(I.hok a _ q3).there
   have I1:=I.frz q3 hob
   have sm1:zbV G (upd G a (.frz ob (.dK us))):=fun b u e=>by rw [zap (zan e q2)];exact e
   have hH1:∀ b u,b≠a->H b=some u->upd H a (.frz ob (.dK us)) b=some u:=fun b u hb e=>by rw [zap hb];exact e
   have A1:At Γ X.K G₀ H₀ (upd G a (.frz ob (.dK us))) (upd H a (.frz ob (.dK us))) (ρ.set i (some (.sh (.fdk kvs)))) σ:=by
    refine A.ch hi h1 (.odk q1 q2 q3 q4 q5) (fun b u e hb=>hH1 b u (fun z=>hb (List.mem_singleton.mpr z)) e) (.sh (.fdk zav q4 (q5.mono sm1))) (fun b hb=>by cases hb) sm1 (fun b u e=>?_) (fun b u e hb=>?_)
    ·by_cases hba:b=a
     ·subst hba;rw [zav] at e ⊢;exact e
     ·rw [zap hba] at e
      exact hH1 b u hba (A.gh b u e)
    ·rw [zap (fun z=>hb (List.mem_singleton.mpr z))]
   refine thn (h.1 pins s σ _ (fun b' H'=>H' a=some (.frz ob (.dK us))/\Q b' (upd H' a (.dK us))) I1 ⟨G₀,H₀,_,_,b,A1,hq,fun G' H' s'=>⟨s'.hh _ _ zav,k G _ ⟨fun x u e=>?_,.refl _,fun x u e=>?_,fun _ _ _=>rfl⟩⟩⟩) fun r s1 q=>?_
   ·by_cases hx:x=a
    ·subst hx
     rw [zav,← e,q3]
    ·rw [zap hx]
     exact s'.hh x u (by rw [zap hx];exact e)
   ·have hx:x≠a:=zan e q2
    rw [zap hx]
    exact s'.hh x u (by rw [zap hx];exact A.gh x u e)
   ·obtain ⟨H',I',hx,q⟩:=q
    exact ⟨_,I'.unfrz hx hnf,q⟩
 ·cases hq⟩
def zsd (i:Nat) (f:FE):FE:=fun ρ=>match ρ[i]? with
 | some (some (.odk kvs))=>(f (ρ.set i (some (.sh (.dk kvs))))).bind fun d=>if zlY d=true then some d else none
 | _=>none
theorem ztD (i:Nat) (h:DE Γ X c f):DE Γ X c (zsd i f):=⟨h.1.imp fun σ H Q=>by
 rintro ⟨G₀,H₀,G,ρ,d,A,h,k⟩
 unfold zsd at h
 split at h
 ·rename_i kvs hi
  obtain ⟨d',hd',h⟩:=oBd h
  split at h
  ·rename_i hf
   cases h
   obtain ⟨G1,sm,A1⟩:=A.frzD hi (d:=.dk kvs) rfl
   exact ⟨G₀,H₀,G1,_,d,A1,hd',fun v G' H' s r=>k v G H' (s.back A.gh sm) (r.flat hf)⟩
  ·cases h
 ·cases h⟩
end
end L2
end
section
namespace L2
open PySem PySem.Spec PyProof.Rows
def noE:FE:=fun _=>none
theorem zo9 {Γ:Cn} {X:Cx} {e:Expr}:DE Γ X e noE:=⟨fun pins s σ H Q I q=>by
 obtain ⟨_,_,_,_,_,_,h,_⟩:=q
 cases h⟩
end L2
end
section
namespace Law
open PySem L2 PySem.Spec PyProof.Rows
def top (i:Nat):Stmt:=PySem.Challenge.pw_shopbound_k22_lengths_and_ends.main.body.getD i (.Pass ⟨0,0,0,0⟩)
abbrev zfe:Stmt:=top 65
abbrev zdT:Stmt:=top 66
abbrev zeo:Stmt:=top 68
abbrev zfc:Stmt:=top 67
abbrev zdr:Stmt:=top 69
abbrev zen:Stmt:=top 70
abbrev zfd:Stmt:=top 71
abbrev zdS:Stmt:=top 72
abbrev zeq:Stmt:=top 73
abbrev zdR:Stmt:=top 74
abbrev zep:Stmt:=top 75
abbrev zfR:Stmt:=top 23
abbrev ze7:Stmt:=top 26
abbrev zfS:Stmt:=top 28
abbrev zfT:Stmt:=top 42
abbrev zgW:Stmt:=top 27
abbrev zel:Stmt:=top 43
abbrev zgV:Stmt:=top 24
abbrev zfU:Stmt:=top 44
abbrev zei:Stmt:=top 30
abbrev zdQ:Stmt:=top 45
abbrev ze8:Stmt:=top 29
abbrev ziz:Stmt:=top 46
abbrev zfV:Stmt:=top 47
abbrev zgU:Stmt:=top 48
abbrev ze9:Stmt:=top 49
abbrev zfW:Stmt:=top 51
abbrev zek:Stmt:=top 53
abbrev zfa:Stmt:=top 55
abbrev zej:Stmt:=top 59
abbrev zcW:Stmt:=top 60
abbrev zkg:Stmt:=top 62
abbrev zdb:Stmt:=zdd (top 63) 0
abbrev zfb:Stmt:=top 76
abbrev zer:Stmt:=top 78
abbrev zcK:Stmt:=zdd (top 63) 9
abbrev zds:Stmt:=zdd (top 63) 10
abbrev ze5:Stmt:=top 4
abbrev zgX:Stmt:=top 5
abbrev zdO:Stmt:=top 7
abbrev zcB:Stmt:=zdd (top 63) 7
abbrev zeg:Stmt:=top 8
abbrev zdU:Stmt:=zdd (top 63) 12
abbrev zeh:Stmt:=top 9
abbrev zcY:Stmt:=zdd (top 63) 13
abbrev zdo:Stmt:=top 10
abbrev zfQ:Stmt:=top 2
abbrev zc9:Stmt:=zdd (top 63) 14
abbrev zdt:Stmt:=zdd (top 63) 11
abbrev zc8:Stmt:=top 11
abbrev zdp:Stmt:=top 12
abbrev zda:Stmt:=zdd (top 63) 3
abbrev zdq:Stmt:=top 13
abbrev zcX:Stmt:=zdd (top 63) 5
abbrev zdP:Stmt:=top 14
abbrev zcJ:Stmt:=zdd (top 63) 6
abbrev zdn:Stmt:=top 16
abbrev zdm:Stmt:=top 17
abbrev ze6:Stmt:=top 6
abbrev zem:Stmt:=top 77
abbrev zgT:Stmt:=top 79
def zeQ (mg:Str->Option Value):Tok:=match mg "LONGEST_NAME" with | some (.int _ t)=>t | _=>0
def zeP (mg:Str->Option Value):Tok:=match mg "MOST_BENCHES" with | some (.int _ t)=>t | _=>0
def zfu (mg:Str->Option Value):Tok:=match mg "MOST_BREAKS" with | some (.int _ t)=>t | _=>0
def zeO (mg:Str->Option Value):Tok:=match mg "MOST_HORIZON" with | some (.int _ t)=>t | _=>0
def zgP (mg:Str->Option Value):Tok:=match mg "MOST_JOBS" with | some (.int _ t)=>t | _=>0
def zgi (mg:Str->Option Value):Tok:=match mg "MOST_LINKS" with | some (.int _ t)=>t | _=>0
def zft (mg:Str->Option Value):Tok:=match mg "MOST_SETUPS" with | some (.int _ t)=>t | _=>0
def zgh (mg:Str->Option Value):Tok:=match mg "MOST_STEPS" with | some (.int _ t)=>t | _=>0
def zfs (mg:Str->Option Value):Tok:=match mg "MOST_STOCKS" with | some (.int _ t)=>t | _=>0
def zgO (mg:Str->Option Value):Tok:=match mg "MOST_WAYS" with | some (.int _ t)=>t | _=>0
structure Bn (mg:Str->Option Value):Prop where
 z_abs:mg "abs"=none
 z_all:mg "all"=none
 z_any:mg "any"=none
 z_bool:mg "bool"=none
 z_dict:mg "dict"=none
 z_enumerate:mg "enumerate"=none
 z_int:mg "int"=none
 z_isinstance:mg "isinstance"=none
 z_len:mg "len"=none
 z_list:mg "list"=none
 z_max:mg "max"=none
 z_min:mg "min"=none
 z_range:mg "range"=none
 z_set:mg "set"=none
 z_sorted:mg "sorted"=none
 z_str:mg "str"=none
 z_tuple:mg "tuple"=none
 c_LONGEST_NAME:mg "LONGEST_NAME"=some (.int 8 (zeQ mg))
 c_MOST_BENCHES:mg "MOST_BENCHES"=some (.int 8 (zeP mg))
 c_MOST_BREAKS:mg "MOST_BREAKS"=some (.int 10 (zfu mg))
 c_MOST_HORIZON:mg "MOST_HORIZON"=some (.int 1000000 (zeO mg))
 c_MOST_JOBS:mg "MOST_JOBS"=some (.int 40 (zgP mg))
 c_MOST_LINKS:mg "MOST_LINKS"=some (.int 100 (zgi mg))
 c_MOST_SETUPS:mg "MOST_SETUPS"=some (.int 100 (zft mg))
 c_MOST_STEPS:mg "MOST_STEPS"=some (.int 40 (zgh mg))
 c_MOST_STOCKS:mg "MOST_STOCKS"=some (.int 6 (zfs mg))
 c_MOST_WAYS:mg "MOST_WAYS"=some (.int 4 (zgO mg))
def zc2:List Str:=["benches","steps","jobs","setups","links","stocks","horizon","bench_by_name","step_by_name","setup_by_names","job_by_step"]
end Law
end
section
set_option maxHeartbeats 4000000
namespace Law
open PySem L2 PySem.Spec PyProof.Rows
variable {Γ:Cn} {P:Program} {w:World} {K:PySem.W.Frag} {mg:Str->Option Value} {base:Heap}
local macro_rules | `(tactic| trivial)=>`(tactic| exact ⟨rfl,rfl,rfl,by decide +kernel,rfl,by decide +kernel,by decide +kernel⟩)
def zhE:FQ:=zb9 0
  (zay (sIf (toB (b2 ltD (vSh 1) (cF zdK (zaa (vSh 0) zal)))) (zbb (b2 ixD (vSh 0) (vSh 1))) zbX) (zbb (vC (.int 0))))
theorem zjt:FnScope ["_law_script","_law_k"] ["_law_script","_law_k"] (zak zfe):=by trivial
theorem zjb (F:Dfn K mg "_law_cell" zfe) (B:Bn mg)  : Cal Γ P w K mg base "_law_cell" 2 1 (zhE) :=
 F.cal (k:=0) zjt (fun _ _ _ _ _ _ us hl=>match us,hl with | [_,_],_=>rfl) fun f cdv A outer s H E hr =>
  (zad (zbD (zbe ziZ (zac 1) (zaB zdg rfl B.z_len (by rfl) (zab (zac 0) zag)) (za0 _)) (zaj (zaw (zaA (zac 0) (zac 1)))) zaH) (zaj (zaw zae)))
def zfM:FQ:=zb9 4
  (zay (zba 3 (b2 zfh (cF zt1 (zaa (vSh 0) zal)) (vC (.int 2)))) (zay (zhG 4 (szF zal)) (zay (zeR (itE (vSh 2)) (zbC 2 (zau (zaJ 5) (zau (zaJ 6) zbB))) (sIf (orT (toB (b2 eqD (b2 zb6 (vSh 0) (vC (.int 2))) (vC (.int 1)))) (toB (b2 eqD (vSh 3) (vC (.int 0))))) (zay (zba 3 (b2 zbv (b2 zb6 (b2 zbv (vSh 3) (vSh 0)) (vC (.int 2147483629))) (vC (.int 48271)))) (zay (zba 3 (b2 zbv (vSh 3) (b2 zdX (b2 zdX (vC (.int 7919)) (b2 zbv (vSh 1) (vSh 5))) (b2 zbv (vSh 1) (vSh 5))))) (zay (zba 3 (b2 zb6 (b2 zdX (vSh 3) (vSh 3)) (vC (.int 2147483587)))) (zfX 4 (b2 zb6 (b2 zfh (vSh 3) (vC (.int 16))) (vSh 6)))))) (zay (zfX 4 (b2 zb6 (vSh 3) (vSh 6))) (zba 3 (b2 zfh (vSh 3) (vSh 6)))))) (zh6 4 (zbb (vSh 4))))))
theorem zbj:FnScope ["_law_cell_here","_law_k","_law_sizes","_law_number","_law_found","_law_turn","_law_size"] ["_law_cell_here","_law_k","_law_sizes"] (zak zdT):=by trivial
theorem zhr (F:Dfn K mg "_law_digits" zdT) (B:Bn mg)  : Cal Γ P w K mg base "_law_digits" 3 1 (zfM) :=
 F.cal (k:=0) zbj (fun _ _ _ _ _ _ us hl=>match us,hl with | [_,_,_],_=>rfl) fun f cdv A outer s H E hr =>
  (zad (zaG 3 zbj.nd (zf5 (zaB ztU rfl B.z_abs (by rfl) (zab (zac 0) zag)) zae)) (zad (zdG 4 zbj.nd (zbF zag)) (zad (zcg PassesOwn.never rfl (zd0 rfl B.z_enumerate (zac 2)) (zcG (n:=2) rfl (zaE (zao 5 zbj.nd) (zaE (zao 6 zbj.nd) zcb))) (zaj (zbD (DW.dt (zdv (zbe zf6 (zbR (zac 0) zae) zae (za0 _)) (zcT (zbe zf6 (zac 3) zae (za0 _))))) (zad (zaG 3 zbj.nd (za9 (zbR (za9 (zac 3) (zac 0)) zae) zae)) (zad (zaG 3 zbj.nd (za9 (zac 3) (zdH (zdH zae (za9 (zac 1) (zac 5))) (za9 (zac 1) (zac 5))))) (zad (zaG 3 zbj.nd (zbR (zdH (zac 3) (zac 3)) zae)) (zaj (zcu 4 (zbR (zf5 (zac 3) zae) (zac 6))))))) (zad (zcu 4 (zbR (zac 3) (zac 6))) (zaj (zaG 3 zbj.nd (zf5 (zac 3) (zac 6)))))))) (zc1 4 (zaj (zaw (zac 4)))))))
def zgt:FQ:=zb9 6
  (zay (zhG 2 (szF zal)) (zay (zba 3 (vC (.int 0))) (zay (zeR (itF (vSh 0)) (zbC 2 (zau (zaJ 4) (zau (zaJ 5) zbB))) (zay (zba 6 (b2 zbv (vSh 3) (vSh 4))) (zay (zba 7 (b2 zbv (b2 zbv (vSh 6) (vC (.int 1))) (vSh 5))) (sIf (toB (b2 leD (vSh 7) (vSh 1))) (zay (zfX 2 (zbW (szF (zaa (vSh 6) (zaa (vSh 7) zal))))) (zba 3 (b2 zbv (vSh 7) (vC (.int 1))))) zbX)))) (zh6 2 (zbb (vSh 2))))))
theorem zbI:FnScope ["_law_row","_law_horizon","_law_found","_law_free","_law_begin","_law_size","_law_low","_law_high"] ["_law_row","_law_horizon"] (zak zeo):=by trivial
theorem zhY (F:Dfn K mg "_law_spans" zeo) (B:Bn mg)  : Cal Γ P w K mg base "_law_spans" 2 1 (zgt) :=
 F.cal (k:=0) zbI (fun _ _ _ _ _ _ us hl=>match us,hl with | [_,_],_=>rfl) fun f cdv A outer s H E hr =>
  (zad (zdG 2 zbI.nd (zbF zag)) (zad (zaG 3 zbI.nd zae) (zad (zcg PassesOwn.never rfl (za2 (zac 0)) (zcG (n:=2) rfl (zaE (zao 4 zbI.nd) (zaE (zao 5 zbI.nd) zcb))) (zad (zaG 6 zbI.nd (za9 (zac 3) (zac 4))) (zad (zaG 7 zbI.nd (za9 (za9 (zac 6) zae) (zac 5))) (zaj (zbD (zbe zi0 (zac 7) (zac 1) (za0 _)) (zad (zcu 2 (zbJ (zab (zac 6) (zab (zac 7) zag)))) (zaj (zaG 3 zbI.nd (za9 (zac 7) zae)))) zaH))))) (zc1 2 (zaj (zaw (zac 2)))))))
def zhC:FQ:=zb9 1
  (zay (zba 1 (b2 ixD (vC (.str "abcdefghijklmnopqrstuvwxyz")) (b2 zb6 (vSh 0) (vC (.int 26))))) (zbb (b2 zbv (vSh 1) (b2 zdX (b2 ixD (vC (.str "qrstuvw")) (b2 zfh (vSh 0) (vC (.int 26)))) (b2 zb6 (vSh 0) (vC (.int 4)))))))
theorem zgj:FnScope ["_law_k","_law_letter"] ["_law_k"] (zak zfc):=by trivial
theorem zi9 (F:Dfn K mg "_law_name" zfc) (B:Bn mg)  : Cal Γ P w K mg base "_law_name" 1 1 (zhC) :=
 F.cal (k:=0) zgj (fun _ _ _ _ _ _ us hl=>match us,hl with | [_],_=>rfl) fun f cdv A outer s H E hr =>
  (zad (zaG 1 zgj.nd (zaA zcD (zbR (zac 0) zae))) (zaj (zaw (za9 (zac 1) (zdH (zaA zcD (zf5 (zac 0) zae)) (zbR (zac 0) zae))))))
def zeZ (zai:FQ) (zbO:FQ) (zas:FQ):FQ:=zb9 5
  (zay (zhG 2 (szF zal)) (zay (zeR (itE (vSh 0)) (zbC 2 (zau (zaJ 3) (zau (zaJ 4) zbB))) (zay (zba 5 (cF zai (zaa (vSh 4) (zaa (vSh 3) (zaa (za1 (szF (zaa (vC (.int 4)) (zaa (vC (.int 5)) (zaa (vC (.int 3)) (zaa (vC (.int 7)) (zaa (vC (.int 4)) (zaa (vC (.int 9)) (zaa (vC (.int 5)) zal))))))))) zal))))) (zay (zba 6 (slF (za1 (szF (zaa (zbW (szF (zaa (b2 ixD (vSh 5) (vC (.int 1))) (zaa (b2 ixD (vSh 5) (vC (.int 2))) zal)))) (zaa (zbW (szF (zaa (b2 ixD (vSh 5) (vC (.int 3))) (zaa (b2 ixD (vSh 5) (vC (.int 4))) zal)))) (zaa (zbW (szF (zaa (b2 ixD (vSh 5) (vC (.int 5))) (zaa (b2 ixD (vSh 5) (vC (.int 6))) zal)))) zal))))) pN (pS (b2 ixD (vSh 5) (vC (.int 0)))))) (zfX 2 (zbW (szF (zaa (cF zas (zaa (b2 zbv (vC (.int 60)) (vSh 3)) zal)) (zaa (cF zbO (zaa (vSh 6) (zaa (vSh 1) zal))) zal)))))))) (zh6 2 (zbb (vSh 2)))))
theorem zbT:FnScope ["_law_cells","_law_horizon","_law_found","_law_k","_law_cell_here","_law_row","_law_spans_here"] ["_law_cells","_law_horizon"] (zak zdr):=by trivial
theorem zgG {zai:FQ} {zbO:FQ} {zas:FQ} (F:Dfn K mg "_law_benches" zdr) (B:Bn mg) (c__law_digits:Cal Γ P w K mg base "_law_digits" 3 1 zai) (c__law_spans:Cal Γ P w K mg base "_law_spans" 2 1 zbO) (c__law_name:Cal Γ P w K mg base "_law_name" 1 1 zas):Cal Γ P w K mg base "_law_benches" 2 2 (zeZ zai zbO zas) :=
 F.cal (k:=1) zbT (fun _ _ _ _ _ _ us hl=>match us,hl with | [_,_],_=>rfl) fun f cdv A outer s H E hr =>
  (zad (zdG 2 zbT.nd (zbF zag)) (zad (zcg PassesOwn.never rfl (zd0 rfl B.z_enumerate (zac 0)) (zcG (n:=2) rfl (zaE (zao 3 zbT.nd) (zaE (zao 4 zbT.nd) zcb))) (zad (zaG 5 zbT.nd (dC c__law_digits hr (zab (zac 4) (zab (zac 3) (zab (DO.de (zbF (zab zae (zab zae (zab zae (zab zae (zab zae (zab zae (zab zae zag))))))))) zag))) ln3)) (zad (zaG 6 zbT.nd (zcd (DO.de (zbF (zab (zbJ (zab (zaA (zac 5) zae) (zab (zaA (zac 5) zae) zag))) (zab (zbJ (zab (zaA (zac 5) zae) (zab (zaA (zac 5) zae) zag))) (zab (zbJ (zab (zaA (zac 5) zae) (zab (zaA (zac 5) zae) zag))) zag))))) zcL (zcx (zaA (zac 5) zae)))) (zaj (zcu 2 (zbJ (zab (dC c__law_name hr (zab (za9 zae (zac 3)) zag) ln1) (zab (dC c__law_spans hr (zab (zac 6) (zab (zac 1) zag)) ln2) zag)))))))) (zc1 2 (zaj (zaw (zac 2))))))
def zgs (zai:FQ) (zas:FQ):FQ:=zb9 5
  (zay (zhG 4 (szF zal)) (zay (zeR (itE (vSh 0)) (zbC 2 (zau (zaJ 5) (zau (zaJ 6) zbB))) (zay (zba 7 (cF zai (zaa (vSh 6) (zaa (b2 zbv (vSh 5) (vC (.int 7))) (zaa (za1 (szF (zaa (vC (.int 3)) (zaa (cF zdK (zaa (vSh 1) zal)) (zaa (vSh 3) (zaa (cF zdK (zaa (vSh 1) zal)) (zaa (vSh 3) (zaa (vC (.int 3)) zal)))))))) zal))))) (zay (zhG 8 (szF (zaa (zbW (szF (zaa (b2 ixD (b2 ixD (vSh 1) (b2 ixD (vSh 7) (vC (.int 1)))) (vC (.int 0))) (zaa (b2 zbv (vC (.int 1)) (b2 zb6 (b2 ixD (vSh 7) (vC (.int 2))) (vSh 2))) zal)))) zal))) (zay (sIf (zj3 (toB (b2 eqD (b2 ixD (vSh 7) (vC (.int 0))) (vC (.int 0)))) (toB (b2 neA (b2 ixD (vSh 7) (vC (.int 3))) (b2 ixD (vSh 7) (vC (.int 1)))))) (zfX 8 (zbW (szF (zaa (b2 ixD (b2 ixD (vSh 1) (b2 ixD (vSh 7) (vC (.int 3)))) (vC (.int 0))) (zaa (b2 zbv (vC (.int 1)) (b2 zb6 (b2 ixD (vSh 7) (vC (.int 4))) (vSh 2))) zal))))) zbX) (zh6 8 (zfX 4 (zbW (szF (zaa (cF zas (zaa (vSh 5) zal)) (zaa (b2 ixD (vC (.str "pqr")) (b2 ixD (vSh 7) (vC (.int 5)))) (zaa (vSh 8) zal))))))))))) (zh6 4 (zbb (vSh 4)))))
theorem zcl:FnScope ["_law_cells","_law_benches_here","_law_horizon","_law_longest","_law_found","_law_k","_law_cell_here","_law_row","_law_ways"] ["_law_cells","_law_benches_here","_law_horizon","_law_longest"] (zak zen):=by trivial
theorem zhX {zai:FQ} {zas:FQ} (F:Dfn K mg "_law_steps" zen) (B:Bn mg) (c__law_digits:Cal Γ P w K mg base "_law_digits" 3 1 zai) (c__law_name:Cal Γ P w K mg base "_law_name" 1 1 zas):Cal Γ P w K mg base "_law_steps" 4 2 (zgs zai zas) :=
 F.cal (k:=1) zcl (fun _ _ _ _ _ _ us hl=>match us,hl with | [_,_,_,_],_=>rfl) fun f cdv A outer s H E hr =>
  (zad (zdG 4 zcl.nd (zbF zag)) (zad (zcg PassesOwn.never rfl (zd0 rfl B.z_enumerate (zac 0)) (zcG (n:=2) rfl (zaE (zao 5 zcl.nd) (zaE (zao 6 zcl.nd) zcb))) (zad (zaG 7 zcl.nd (dC c__law_digits hr (zab (zac 6) (zab (za9 (zac 5) zae) (zab (DO.de (zbF (zab zae (zab (zaB zdg rfl B.z_len (by rfl) (zab (zac 1) zag)) (zab (zac 3) (zab (zaB zdg rfl B.z_len (by rfl) (zab (zac 1) zag)) (zab (zac 3) (zab zae zag)))))))) zag))) ln3)) (zad (zdG 8 zcl.nd (zbF (zab (zbJ (zab (zaA (zaA (zac 1) (zaA (zac 7) zae)) zae) (zab (za9 zae (zbR (zaA (zac 7) zae) (zac 2))) zag))) zag))) (zad (zbD (DW.dt (zjM (zbe zf6 (zaA (zac 7) zae) zae (za0 _)) (zhf (zbe (zlv (zsa hr)) (zaA (zac 7) zae) (zaA (zac 7) zae) (za0 _))))) (zaj (zcu 8 (zbJ (zab (zaA (zaA (zac 1) (zaA (zac 7) zae)) zae) (zab (za9 zae (zbR (zaA (zac 7) zae) (zac 2))) zag))))) zaH) (zc1 8 (zaj (zcu 4 (zbJ (zab (dC c__law_name hr (zab (zac 5) zag) ln1) (zab (zaA zcD (zaA (zac 7) zae)) (zab (zac 8) zag))))))))))) (zc1 4 (zaj (zaw (zac 4))))))
def zhD (zai:FQ) (zas:FQ):FQ:=zb9 8
  (zay (zhG 3 (szF zal)) (zay (zba 4 (za1 (zaP (itF (vSh 1)) (zaJ 0) tT (b2 ixD (vSh 0) (vC (.int 0))) [none]))) (zay (zeR (itE (vSh 0)) (zbC 2 (zau (zaJ 5) (zau (zaJ 6) zbB))) (zay (zba 7 (cF zai (zaa (vSh 6) (zaa (b2 zbv (vSh 5) (vC (.int 17))) (zaa (za1 (szF (zaa (vC (.int 4)) (zaa (vC (.int 3)) (zaa (vC (.int 3)) (zaa (vC (.int 2)) (zaa (vC (.int 5)) (zaa (vC (.int 7)) zal)))))))) zal))))) (zay (zba 8 (slF (vSh 4) pN (pS (b2 ixD (vSh 7) (vC (.int 0)))))) (zay (zba 4 (slF (vSh 4) (pS (b2 ixD (vSh 7) (vC (.int 0)))) pN)) (sIf (toB (b2 neA (vSh 8) (za1 (szF zal)))) (zay (zba 9 (cF zm0 (zaa (vSh 2) (zaa (b2 zdX (b2 ixD (vSh 7) (vC (.int 1))) (cF zoT (zaa (b2 eqD (b2 ixD (vSh 7) (vC (.int 2))) (vC (.int 0))) zal))) zal)))) (zay (zba 10 (cF zr7 (zaa (vC (.int 0)) (zaa (b2 zpt (vSh 2) (b2 zdX (b2 ixD (vSh 7) (vC (.int 4))) (cF zoT (zaa (b2 eqD (b2 ixD (vSh 7) (vC (.int 2))) (vC (.int 1))) zal)))) zal)))) (zay (zba 8 (b2 zbv (slF (vSh 8) (pS (b2 zb6 (b2 ixD (vSh 7) (vC (.int 5))) (vC (.int 2)))) pN) (slF (vSh 8) pN (pS (b2 zb6 (b2 ixD (vSh 7) (vC (.int 5))) (vC (.int 2))))))) (zfX 3 (zbW (szF (zaa (cF zas (zaa (b2 zbv (vC (.int 70)) (vSh 5)) zal)) (zaa (vSh 9) (zaa (vSh 10) (zaa (b2 eqD (b2 ixD (vSh 7) (vC (.int 3))) (vC (.int 1))) (zaa (vSh 8) zal))))))))))) zbX))))) (zh6 3 (zbb (vSh 3))))))
theorem zbp:FnScope ["_law_cells","_law_steps_here","_law_horizon","_law_found","_law_left","_law_k","_law_cell_here","_law_row","_law_some","_law_early","_law_due"] ["_law_cells","_law_steps_here","_law_horizon"] (zak zfd):=by trivial
theorem zja {zai:FQ} {zas:FQ} (F:Dfn K mg "_law_jobs" zfd) (B:Bn mg) (c__law_digits:Cal Γ P w K mg base "_law_digits" 3 1 zai) (c__law_name:Cal Γ P w K mg base "_law_name" 1 1 zas):Cal Γ P w K mg base "_law_jobs" 3 2 (zhD zai zas) :=
 F.cal (k:=1) zbp (fun _ _ _ _ _ _ us hl=>match us,hl with | [_,_,_],_=>rfl) fun f cdv A outer s H E hr =>
  (zad (zdG 3 zbp.nd (zbF zag)) (zad (zlZ 4 zbp.nd rfl (CompScope.of rfl rfl) (FvOk.of (N':=["_law_step"]) (fv:=[none]) rfl) (za2 (zac 1)) ⟨fun _ _ _ _ _=>⟨(zao 0 (show (["_law_step"]:List Str).Nodup by decide +kernel)),zaQ,(zaA (zac 0) zae)⟩⟩) (zad (zcg PassesOwn.never rfl (zd0 rfl B.z_enumerate (zac 0)) (zcG (n:=2) rfl (zaE (zao 5 zbp.nd) (zaE (zao 6 zbp.nd) zcb))) (zad (zaG 7 zbp.nd (dC c__law_digits hr (zab (zac 6) (zab (za9 (zac 5) zae) (zab (DO.de (zbF (zab zae (zab zae (zab zae (zab zae (zab zae (zab zae zag)))))))) zag))) ln3)) (zad (zaG 8 zbp.nd (zcd (zac 4) zcL (zcx (zaA (zac 7) zae)))) (zad (zaG 4 zbp.nd (zcd (zac 4) (zcx (zaA (zac 7) zae)) zcL)) (zaj (zbD (zbe (zlv (zsa hr)) (zac 8) (DO.de (zbF zag)) (za0 _)) (zad (zaG 9 zbp.nd (zaB (znZ rfl) rfl B.z_min (by rfl) (zab (zac 2) (zab (zdH (zaA (zac 7) zae) (zcU zps rfl B.z_int (by rfl) (zab (zew zf6 (zaA (zac 7) zae) zae (za0 _)) zag))) zag)))) (zad (zaG 10 zbp.nd (zaB (ztS rfl) rfl B.z_max (by rfl) (zab zae (zab (zpS (zac 2) (zdH (zaA (zac 7) zae) (zcU zps rfl B.z_int (by rfl) (zab (zew zf6 (zaA (zac 7) zae) zae (za0 _)) zag)))) zag)))) (zad (zaG 8 zbp.nd (za9 (zcd (zac 8) (zcx (zbR (zaA (zac 7) zae) zae)) zcL) (zcd (zac 8) zcL (zcx (zbR (zaA (zac 7) zae) zae))))) (zaj (zcu 3 (zbJ (zab (dC c__law_name hr (zab (za9 zae (zac 5)) zag) ln1) (zab (zac 9) (zab (zac 10) (zab (zew zf6 (zaA (zac 7) zae) zae (za0 _)) (zab (zac 8) zag))))))))))) zaH)))))) (zc1 3 (zaj (zaw (zac 3)))))))
def zfL (zai:FQ):FQ:=zb9 5
  (zay (zhG 3 (szF zal)) (zay (zeR (itE (cF zai (zaa (vSh 0) (zaa (vC (.int 3)) (zaa (b2 zdX (za1 (szF (zaa (vC (.int 4)) zal))) (vC (.int 6))) zal))))) (zbC 2 (zau (zaJ 4) (zau (zaJ 5) zbB))) (zay (zba 6 (b2 ixD (b2 ixD (vSh 1) (b2 zb6 (vSh 4) (cF zdK (zaa (vSh 1) zal)))) (vC (.int 0)))) (zay (zba 7 (zbW (szF (zaa (vSh 6) (zaa (b2 ixD (vC (.str "pqr")) (b2 zb6 (vSh 4) (vC (.int 3)))) (zaa (b2 ixD (vC (.str "pqr")) (b2 zb6 (b2 zbv (vSh 4) (vSh 5)) (vC (.int 3)))) (zaa (cF zm0 (zaa (vSh 2) (zaa (vSh 5) zal))) zal))))))) (sIf (bwT 3 (zj3 (toB (b2 gtD (vSh 5) (vC (.int 0)))) (toB (b2 zff (slF (vSh 7) pN (pS (vC (.int 3)))) (za1 (zaP (itF (vSh 3)) (zaJ 0) tT (slF (vSh 0) pN (pS (vC (.int 3)))) [none])))))) (zfX 3 (vSh 7)) zbX)))) (zh6 3 (zbb (vSh 3)))))
theorem zb8:FnScope ["_law_cell_here","_law_benches_here","_law_horizon","_law_found","_law_k","_law_many","_law_bench","_law_row"] ["_law_cell_here","_law_benches_here","_law_horizon"] (zak zdS):=by trivial
theorem zhq {zai:FQ} (F:Dfn K mg "_law_setups" zdS) (B:Bn mg) (c__law_digits:Cal Γ P w K mg base "_law_digits" 3 1 zai):Cal Γ P w K mg base "_law_setups" 3 2 (zfL zai) :=
 F.cal (k:=1) zb8 (fun _ _ _ _ _ _ us hl=>match us,hl with | [_,_,_],_=>rfl) fun f cdv A outer s H E hr =>
  (zad (zdG 3 zb8.nd (zbF zag)) (zad (zcg PassesOwn.never rfl (zd0 rfl B.z_enumerate (dC c__law_digits hr (zab (zac 0) (zab zae (zab (zdH (DO.de (zbF (zab zae zag))) zae) zag))) ln3)) (zcG (n:=2) rfl (zaE (zao 4 zb8.nd) (zaE (zao 5 zb8.nd) zcb))) (zad (zaG 6 zb8.nd (zaA (zaA (zac 1) (zbR (zac 4) (zaB zdg rfl B.z_len (by rfl) (zab (zac 1) zag)))) zae)) (zad (zaG 7 zb8.nd (zbJ (zab (zac 6) (zab (zaA zcD (zbR (zac 4) zae)) (zab (zaA zcD (zbR (za9 (zac 4) (zac 5)) zae)) (zab (zaB (znZ rfl) rfl B.z_min (by rfl) (zab (zac 2) (zab (zac 5) zag))) zag)))))) (zaj (zbD (ztt 3 (DW.dt (zjM (zbe zph (zac 5) zae (za0 _)) (zhf (zbe (zkA (zd9 hr)) (zcd (zac 7) zcL (zcx zae)) (DO.de (zcs rfl (CompScope.of rfl rfl) (FvOk.of (N':=["_law_one"]) (fv:=[none]) rfl) (za2 (zac 3)) ⟨fun _ _ _ _ _=>⟨(zao 0 (show (["_law_one"]:List Str).Nodup by decide +kernel)),zaQ,(zcd (zac 0) zcL (zcx zae))⟩⟩)) (by rfl)))))) (zaj (zcu 3 (zac 7))) zaH))))) (zc1 3 (zaj (zaw (zac 3))))))
def zgv (zai:FQ):FQ:=zb9 5
  (zay (zhG 3 (szF zal)) (zay (zba 4 (cF zai (zaa (vSh 0) (zaa (vC (.int 5)) (zaa (za1 (szF (zaa (vC (.int 3)) (zaa (vC (.int 9)) (zaa (vC (.int 9)) (zaa (vC (.int 4)) (zaa (vC (.int 9)) (zaa (vC (.int 9)) (zaa (vC (.int 4)) zal))))))))) zal))))) (zay (zeR (itR zk1 (zaa (b2 ixD (vSh 4) (vC (.int 0))) zal)) (zaJ 5) (zay (zba 6 (b2 ixD (b2 ixD (vSh 1) (b2 zb6 (b2 ixD (vSh 4) (b2 zbv (vC (.int 1)) (b2 zdX (vC (.int 3)) (vSh 5)))) (cF zdK (zaa (vSh 1) zal)))) (vC (.int 0)))) (zay (zba 7 (b2 ixD (b2 ixD (vSh 1) (b2 zb6 (b2 ixD (vSh 4) (b2 zbv (vC (.int 2)) (b2 zdX (vC (.int 3)) (vSh 5)))) (cF zdK (zaa (vSh 1) zal)))) (vC (.int 0)))) (sIf (bwT 3 (zj3 (toB (b2 neA (vSh 6) (vSh 7))) (toB (b2 zff (zbW (szF (zaa (vSh 6) (zaa (vSh 7) zal)))) (za1 (zaP (itF (vSh 3)) (zaJ 0) tT (slF (vSh 0) pN (pS (vC (.int 2)))) [none])))))) (zfX 3 (zbW (szF (zaa (vSh 6) (zaa (vSh 7) (zaa (cF zm0 (zaa (vSh 2) (zaa (b2 ixD (vSh 4) (b2 zbv (vC (.int 3)) (b2 zdX (vC (.int 3)) (vSh 5)))) zal))) zal)))))) zbX)))) (zh6 3 (zbb (vSh 3))))))
theorem zcm:FnScope ["_law_cell_here","_law_steps_here","_law_horizon","_law_found","_law_row","_law_k","_law_one","_law_other"] ["_law_cell_here","_law_steps_here","_law_horizon"] (zak zeq):=by trivial
theorem zh0 {zai:FQ} (F:Dfn K mg "_law_links" zeq) (B:Bn mg) (c__law_digits:Cal Γ P w K mg base "_law_digits" 3 1 zai):Cal Γ P w K mg base "_law_links" 3 2 (zgv zai) :=
 F.cal (k:=1) zcm (fun _ _ _ _ _ _ us hl=>match us,hl with | [_,_,_],_=>rfl) fun f cdv A outer s H E hr =>
  (zad (zdG 3 zcm.nd (zbF zag)) (zad (zaG 4 zcm.nd (dC c__law_digits hr (zab (zac 0) (zab zae (zab (DO.de (zbF (zab zae (zab zae (zab zae (zab zae (zab zae (zab zae (zab zae zag))))))))) zag))) ln3)) (zad (zcg PassesOwn.never rfl (zev rfl B.z_range (zab (zaA (zac 4) zae) zag)) (zao 5 zcm.nd) (zad (zaG 6 zcm.nd (zaA (zaA (zac 1) (zbR (zaA (zac 4) (za9 zae (zdH zae (zac 5)))) (zaB zdg rfl B.z_len (by rfl) (zab (zac 1) zag)))) zae)) (zad (zaG 7 zcm.nd (zaA (zaA (zac 1) (zbR (zaA (zac 4) (za9 zae (zdH zae (zac 5)))) (zaB zdg rfl B.z_len (by rfl) (zab (zac 1) zag)))) zae)) (zaj (zbD (ztt 3 (DW.dt (zjM (zbe (zlv (zsa hr)) (zac 6) (zac 7) (za0 _)) (zhf (zbe (zkA (zd9 hr)) (zbJ (zab (zac 6) (zab (zac 7) zag))) (DO.de (zcs rfl (CompScope.of rfl rfl) (FvOk.of (N':=["_law_link"]) (fv:=[none]) rfl) (za2 (zac 3)) ⟨fun _ _ _ _ _=>⟨(zao 0 (show (["_law_link"]:List Str).Nodup by decide +kernel)),zaQ,(zcd (zac 0) zcL (zcx zae))⟩⟩)) (by rfl)))))) (zaj (zcu 3 (zbJ (zab (zac 6) (zab (zac 7) (zab (zaB (znZ rfl) rfl B.z_min (by rfl) (zab (zac 2) (zab (zaA (zac 4) (za9 zae (zdH zae (zac 5)))) zag))) zag)))))) zaH))))) (zc1 3 (zaj (zaw (zac 3)))))))
def zfK (zai:FQ) (zas:FQ):FQ:=zb9 6
  (zay (zba 2 (cF zai (zaa (vSh 0) (zaa (vC (.int 9)) (zaa (za1 (szF (zaa (vC (.int 3)) (zaa (vC (.int 4)) (zaa (vC (.int 5)) (zaa (vC (.int 8)) (zaa (vC (.int 8)) (zaa (vC (.int 4)) (zaa (vC (.int 4)) zal))))))))) zal))))) (zay (zhG 3 (szF zal)) (zay (zeR (itR zk1 (zaa (b2 ixD (vSh 2) (vC (.int 0))) zal)) (zaJ 4) (zay (zba 5 (b2 zbv (b2 ixD (vSh 2) (vC (.int 1))) (b2 ixD (vSh 2) (vC (.int 2))))) (zay (zba 6 (za1 (zaP (itE (vSh 1)) (zbC 2 (zau (zaJ 0) (zau (zaJ 1) zbB))) (toB (b2 eqD (b2 zb6 (b2 zfh (b2 zbv (b2 ixD (vSh 2) (vC (.int 3))) (vSh 3)) (b2 ixD (za1 (szF (zaa (vC (.int 1)) (zaa (vC (.int 2)) (zaa (vC (.int 4)) zal))))) (b2 zb6 (vSh 0) (vC (.int 3))))) (vC (.int 2))) (vC (.int 1)))) (zbW (szF (zaa (b2 ixD (vSh 1) (vC (.int 0))) (zaa (b2 zbv (vC (.int 1)) (b2 ixD (vSh 2) (vC (.int 5)))) zal)))) [none,none,some 2,some 4]))) (zay (zba 7 (za1 (zaP (itE (vSh 1)) (zbC 2 (zau (zaJ 0) (zau (zaJ 1) zbB))) (toB (b2 eqD (b2 zb6 (b2 zfh (b2 zbv (b2 ixD (vSh 2) (vC (.int 4))) (vSh 3)) (b2 ixD (za1 (szF (zaa (vC (.int 1)) (zaa (vC (.int 2)) (zaa (vC (.int 4)) zal))))) (b2 zb6 (vSh 0) (vC (.int 3))))) (vC (.int 2))) (vC (.int 1)))) (zbW (szF (zaa (b2 ixD (vSh 1) (vC (.int 0))) (zaa (b2 zbv (vC (.int 1)) (b2 ixD (vSh 2) (vC (.int 6)))) zal)))) [none,none,some 2,some 4]))) (zfX 3 (zbW (szF (zaa (cF zas (zaa (b2 zbv (vC (.int 80)) (vSh 4)) zal)) (zaa (b2 ixD (vSh 2) (vC (.int 1))) (zaa (vSh 5) (zaa (vSh 6) (zaa (vSh 7) zal)))))))))))) (zh6 3 (zbb (vSh 3))))))
theorem zbQ:FnScope ["_law_cell_here","_law_steps_here","_law_row","_law_found","_law_k","_law_room","_law_takes","_law_puts"] ["_law_cell_here","_law_steps_here"] (zak zdR):=by trivial
theorem zhp {zai:FQ} {zas:FQ} (F:Dfn K mg "_law_stocks" zdR) (B:Bn mg) (c__law_digits:Cal Γ P w K mg base "_law_digits" 3 1 zai) (c__law_name:Cal Γ P w K mg base "_law_name" 1 1 zas):Cal Γ P w K mg base "_law_stocks" 2 2 (zfK zai zas) :=
 F.cal (k:=1) zbQ (fun _ _ _ _ _ _ us hl=>match us,hl with | [_,_],_=>rfl) fun f cdv A outer s H E hr =>
  (zad (zaG 2 zbQ.nd (dC c__law_digits hr (zab (zac 0) (zab zae (zab (DO.de (zbF (zab zae (zab zae (zab zae (zab zae (zab zae (zab zae (zab zae zag))))))))) zag))) ln3)) (zad (zdG 3 zbQ.nd (zbF zag)) (zad (zcg PassesOwn.never rfl (zev rfl B.z_range (zab (zaA (zac 2) zae) zag)) (zao 4 zbQ.nd) (zad (zaG 5 zbQ.nd (za9 (zaA (zac 2) zae) (zaA (zac 2) zae))) (zad (zlZ 6 zbQ.nd rfl (CompScope.of rfl rfl) (FvOk.of (N':=["_law_j","_law_step","_law_row","_law_k"]) (fv:=[none,none,some 2,some 4]) rfl) (zd0 rfl B.z_enumerate (zac 1)) ⟨fun _ _ _ _ _=>⟨(zcG (n:=2) rfl (zaE (zao 0 (show (["_law_j","_law_step","_law_row","_law_k"]:List Str).Nodup by decide +kernel)) (zaE (zao 1 (show (["_law_j","_law_step","_law_row","_law_k"]:List Str).Nodup by decide +kernel)) zcb))),(zkt (zbe zf6 (zbR (zf5 (za9 (zaA (zac 2) zae) (zac 3)) (zaA (DO.de (zbF (zab zae (zab zae (zab zae zag))))) (zbR (zac 0) zae))) zae) zae (za0 _))),(zbJ (zab (zaA (zac 1) zae) (zab (za9 zae (zaA (zac 2) zae)) zag)))⟩⟩) (zad (zlZ 7 zbQ.nd rfl (CompScope.of rfl rfl) (FvOk.of (N':=["_law_j","_law_step","_law_row","_law_k"]) (fv:=[none,none,some 2,some 4]) rfl) (zd0 rfl B.z_enumerate (zac 1)) ⟨fun _ _ _ _ _=>⟨(zcG (n:=2) rfl (zaE (zao 0 (show (["_law_j","_law_step","_law_row","_law_k"]:List Str).Nodup by decide +kernel)) (zaE (zao 1 (show (["_law_j","_law_step","_law_row","_law_k"]:List Str).Nodup by decide +kernel)) zcb))),(zkt (zbe zf6 (zbR (zf5 (za9 (zaA (zac 2) zae) (zac 3)) (zaA (DO.de (zbF (zab zae (zab zae (zab zae zag))))) (zbR (zac 0) zae))) zae) zae (za0 _))),(zbJ (zab (zaA (zac 1) zae) (zab (za9 zae (zaA (zac 2) zae)) zag)))⟩⟩) (zaj (zcu 3 (zbJ (zab (dC c__law_name hr (zab (za9 zae (zac 4)) zag) ln1) (zab (zaA (zac 2) zae) (zab (zac 5) (zab (zac 6) (zab (zac 7) zag)))))))))))) (zc1 3 (zaj (zaw (zac 3)))))))
def zgu (zar:FQ) (zbA:FQ) (zb1:FQ) (zck:FQ) (zbP:FQ) (zb3:FQ) (zbN:FQ):List D->Option (List D):=zr2 6
  (zay (zba 4 (cF zbA (zaa (za1 (zaP (itR zk1 (zaa (b2 zbv (vC (.int 1)) (b2 zb6 (cF zar (zaa (vSh 0) (zaa (vC (.int 0)) zal))) (vC (.int 3)))) zal)) (zaJ 0) tT (cF zar (zaa (vSh 1) (zaa (b2 zbv (vC (.int 1)) (vSh 0)) zal))) [none,some 0])) (zaa (vSh 2) zal)))) (zay (zba 5 (cF zb1 (zaa (za1 (zaP (itR zk1 (zaa (vSh 1) zal)) (zaJ 0) tT (cF zar (zaa (vSh 1) (zaa (b2 zbv (vC (.int 4)) (vSh 0)) zal))) [none,some 0])) (zaa (vSh 4) (zaa (vSh 2) (zaa (vSh 3) zal)))))) (zay (zba 6 (cF zck (zaa (za1 (zaP (itR zk1 (zaa (vC (.int 3)) zal)) (zaJ 0) tT (cF zar (zaa (vSh 1) (zaa (b2 zbv (vC (.int 14)) (vSh 0)) zal))) [none,some 0])) (zaa (vSh 5) (zaa (vSh 2) zal))))) (zay (zba 7 (cF zbP (zaa (cF zar (zaa (vSh 0) (zaa (vC (.int 17)) zal))) (zaa (vSh 4) (zaa (vSh 2) zal))))) (zay (zba 8 (cF zb3 (zaa (cF zar (zaa (vSh 0) (zaa (vC (.int 18)) zal))) (zaa (vSh 5) (zaa (vSh 2) zal))))) (zay (zba 9 (cF zbN (zaa (cF zar (zaa (vSh 0) (zaa (vC (.int 19)) zal))) (zaa (vSh 5) zal)))) (zms (szF (zaa (vSh 4) (zaa (vSh 5) (zaa (vSh 6) (zaa (vSh 7) (zaa (vSh 8) (zaa (vSh 9) (zaa (vSh 2) zal)))))))))))))))
theorem zb4:FnScope ["_law_script","_law_many","_law_horizon","_law_longest","_law_benches_here","_law_steps_here","_law_jobs_here","_law_setups_here","_law_links_here","_law_stocks_here"] ["_law_script","_law_many","_law_horizon","_law_longest"] (zak zep):=by trivial
theorem zhZ {zar:FQ} {zbA:FQ} {zb1:FQ} {zck:FQ} {zbP:FQ} {zb3:FQ} {zbN:FQ} (F:Dfn K mg "_law_lists" zep) (B:Bn mg) (c__law_cell:Cal Γ P w K mg base "_law_cell" 2 1 zar) (c__law_benches:Cal Γ P w K mg base "_law_benches" 2 2 zbA) (c__law_steps:Cal Γ P w K mg base "_law_steps" 4 2 zb1) (c__law_jobs:Cal Γ P w K mg base "_law_jobs" 3 2 zck) (c__law_setups:Cal Γ P w K mg base "_law_setups" 3 2 zbP) (c__law_links:Cal Γ P w K mg base "_law_links" 3 2 zb3) (c__law_stocks:Cal Γ P w K mg base "_law_stocks" 2 2 zbN):CalO Γ P w K mg base "_law_lists" 4 3 (zgu zar zbA zb1 zck zbP zb3 zbN) :=
 F.calO (k:=2) zb4 (fun _ _ _ _ _ _ us hl=>match us,hl with | [_,_,_,_],_=>rfl) fun f cdv A outer s H E hr =>
  (zad (zaG 4 zb4.nd (dC c__law_benches hr (zab (DO.de (zcs rfl (CompScope.of rfl rfl) (FvOk.of (N':=["_law_k","_law_script"]) (fv:=[none,some 0]) rfl) (zev rfl B.z_range (zab (za9 zae (zbR (dC c__law_cell hr (zab (zac 0) (zab zae zag)) ln2) zae)) zag)) ⟨fun _ _ _ _ _=>⟨(zao 0 (show (["_law_k","_law_script"]:List Str).Nodup by decide +kernel)),zaQ,(dC c__law_cell hr (zab (zac 1) (zab (za9 zae (zac 0)) zag)) ln2)⟩⟩)) (zab (zac 2) zag)) ln2)) (zad (zaG 5 zb4.nd (dC c__law_steps hr (zab (DO.de (zcs rfl (CompScope.of rfl rfl) (FvOk.of (N':=["_law_k","_law_script"]) (fv:=[none,some 0]) rfl) (zev rfl B.z_range (zab (zac 1) zag)) ⟨fun _ _ _ _ _=>⟨(zao 0 (show (["_law_k","_law_script"]:List Str).Nodup by decide +kernel)),zaQ,(dC c__law_cell hr (zab (zac 1) (zab (za9 zae (zac 0)) zag)) ln2)⟩⟩)) (zab (zac 4) (zab (zac 2) (zab (zac 3) zag)))) ln4)) (zad (zaG 6 zb4.nd (dC c__law_jobs hr (zab (DO.de (zcs rfl (CompScope.of rfl rfl) (FvOk.of (N':=["_law_k","_law_script"]) (fv:=[none,some 0]) rfl) (zev rfl B.z_range (zab zae zag)) ⟨fun _ _ _ _ _=>⟨(zao 0 (show (["_law_k","_law_script"]:List Str).Nodup by decide +kernel)),zaQ,(dC c__law_cell hr (zab (zac 1) (zab (za9 zae (zac 0)) zag)) ln2)⟩⟩)) (zab (zac 5) (zab (zac 2) zag))) ln3)) (zad (zaG 7 zb4.nd (dC c__law_setups hr (zab (dC c__law_cell hr (zab (zac 0) (zab zae zag)) ln2) (zab (zac 4) (zab (zac 2) zag))) ln3)) (zad (zaG 8 zb4.nd (dC c__law_links hr (zab (dC c__law_cell hr (zab (zac 0) (zab zae zag)) ln2) (zab (zac 5) (zab (zac 2) zag))) ln3)) (zad (zaG 9 zb4.nd (dC c__law_stocks hr (zab (dC c__law_cell hr (zab (zac 0) (zab zae zag)) ln2) (zab (zac 5) zag)) ln2)) (zaj (zrq (zbF (zab (zac 4) (zab (zac 5) (zab (zac 6) (zab (zac 7) (zab (zac 8) (zab (zac 9) (zab (zac 2) zag))))))))))))))))
def zgc:FQ:=zb9 0
  (zbb (zht (cF zgz (zaa (vSh 0) (zaa (vC (.ty "int")) zal))) (zr6 (cF zgz (zaa (vSh 0) (zaa (vC (.ty "bool")) zal))))))
theorem zkb:FnScope ["thing"] ["thing"] (zak zfR):=by trivial
theorem zjT (F:Dfn K mg "is_whole" zfR) (B:Bn mg)  : Cal Γ P w K mg base "is_whole" 1 1 (zgc) :=
 F.cal (k:=0) zkb (fun _ _ _ _ _ _ us hl=>match us,hl with | [_],_=>rfl) fun f cdv A outer s H E hr =>
  (zaj (zaw (zd7 (zaB zeW rfl B.z_isinstance (by rfl) (zab (zac 0) (zab (zhO rfl B.z_int (by rfl)) zag))) (zeU (zpT (zaB zeW rfl B.z_isinstance (by rfl) (zab (zac 0) (zab (zhO rfl B.z_bool (by rfl)) zag))))))))
def zfp (zcp:FQ):FQ:=zb9 0
  (zbb (zht (cF zcp (zaa (vSh 0) zal)) (chD leD leD (vSh 1) (vSh 0) (vSh 2))))
theorem zjo:FnScope ["thing","least","most"] ["thing","least","most"] (zak ze7):=by trivial
theorem zi4 {zcp:FQ} (F:Dfn K mg "is_within" ze7) (B:Bn mg) (c_is_whole:Cal Γ P w K mg base "is_whole" 1 1 zcp):Cal Γ P w K mg base "is_within" 3 2 (zfp zcp) :=
 F.cal (k:=1) zjo (fun _ _ _ _ _ _ us hl=>match us,hl with | [_,_,_],_=>rfl) fun f cdv A outer s H E hr =>
  (zaj (zaw (zd7 (dC c_is_whole hr (zab (zac 0) zag) ln1) (zeU (ziW zi0 zi0 (zac 1) (zac 0) (zac 2))))))
def zgd:FQ:=zb9 0
  (zbb (zht (cF zgz (zaa (vSh 0) (zaa (vC (.ty "tuple")) zal))) (b2 eqD (cF zdK (zaa (vSh 0) zal)) (vSh 1))))
theorem zkc:FnScope ["thing","many"] ["thing","many"] (zak zfS):=by trivial
theorem zjU (F:Dfn K mg "is_tuple" zfS) (B:Bn mg)  : Cal Γ P w K mg base "is_tuple" 2 1 (zgd) :=
 F.cal (k:=0) zkc (fun _ _ _ _ _ _ us hl=>match us,hl with | [_,_],_=>rfl) fun f cdv A outer s H E hr =>
  (zaj (zaw (zd7 (zaB zeW rfl B.z_isinstance (by rfl) (zab (zac 0) (zab (zhO rfl B.z_tuple (by rfl)) zag))) (zeU (zew zf6 (zaB zdg rfl B.z_len (by rfl) (zab (zac 0) zag)) (zac 1) (za0 _))))))
def zge (zaI:FQ) (zaC:FQ):FQ:=zb9 0
  (zay (sIf (orT (zcZ (toB (cF zaC (zaa (vSh 0) (zaa (vC (.int 2)) zal))))) (orT (zcZ (toB (cF zaI (zaa (b2 ixD (vSh 0) (vC (.int 0))) (zaa (vC (.int 0)) (zaa (vSh 1) zal)))))) (zcZ (toB (cF zaI (zaa (b2 ixD (vSh 0) (vC (.int 1))) (zaa (vC (.int 0)) (zaa (vSh 1) zal)))))))) (zbb (vC (.bl false))) zbX) (zbb (b2 ltD (b2 ixD (vSh 0) (vC (.int 0))) (b2 ixD (vSh 0) (vC (.int 1))))))
theorem zkd:FnScope ["row","horizon"] ["row","horizon"] (zak zfT):=by trivial
theorem zjV {zaI:FQ} {zaC:FQ} (F:Dfn K mg "is_break" zfT) (B:Bn mg) (c_is_within:Cal Γ P w K mg base "is_within" 3 2 zaI) (c_is_tuple:Cal Γ P w K mg base "is_tuple" 2 1 zaC):Cal Γ P w K mg base "is_break" 2 3 (zge zaI zaC) :=
 F.cal (k:=2) zkd (fun _ _ _ _ _ _ us hl=>match us,hl with | [_,_],_=>rfl) fun f cdv A outer s H E hr =>
  (zad (zbD (DW.dt (zdv (zbt (zbh (dC c_is_tuple hr (zab (zac 0) (zab zae zag)) ln2))) (zdv (zbt (zbh (dC c_is_within hr (zab (zaA (zac 0) zae) (zab zae (zab (zac 1) zag))) ln3))) (zcT (zbt (zbh (dC c_is_within hr (zab (zaA (zac 0) zae) (zab zae (zab (zac 1) zag))) ln3))))))) (zaj (zaw zfi)) zaH) (zaj (zaw (zew ziZ (zaA (zac 0) zae) (zaA (zac 0) zae) (za0 _)))))
def zhx:FQ:=zb9 0
  (zbb (zht (cF zgz (zaa (vSh 0) (zaa (vC (.ty "list")) zal))) (chD leD leD (vSh 1) (cF zdK (zaa (vSh 0) zal)) (vSh 2))))
theorem zlH:FnScope ["thing","least","most"] ["thing","least","most"] (zak zgW):=by trivial
theorem zkF (F:Dfn K mg "is_list" zgW) (B:Bn mg)  : Cal Γ P w K mg base "is_list" 3 1 (zhx) :=
 F.cal (k:=0) zlH (fun _ _ _ _ _ _ us hl=>match us,hl with | [_,_,_],_=>rfl) fun f cdv A outer s H E hr =>
  (zaj (zaw (zd7 (zaB zeW rfl B.z_isinstance (by rfl) (zab (zac 0) (zab (zhO rfl B.z_list (by rfl)) zag))) (zeU (ziW zi0 zi0 (zac 1) (zaB zdg rfl B.z_len (by rfl) (zab (zac 0) zag)) (zac 2))))))
def zgr (zcq:FQ) (zaq:FQ):FQ:=zb9 0
  (zay (sIf (orT (zcZ (toB (cF zaq (zaa (vSh 0) (zaa (vC (.int 0)) (zaa (vC (.int 10)) zal)))))) (zcZ (toB (cF zkK (zaa (za1 (zaP (itF (vSh 0)) (zaJ 0) tT (cF zcq (zaa (vSh 0) (zaa (vSh 1) zal))) [none,some 1])) zal))))) (zbb (vC (.bl false))) zbX) (zbb (cF zkK (zaa (za1 (zaP (itR zqo (zaa (vC (.int 1)) (zaa (cF zdK (zaa (vSh 0) zal)) zal))) (zaJ 0) tT (b2 ltD (b2 ixD (b2 ixD (vSh 1) (b2 zpt (vSh 0) (vC (.int 1)))) (vC (.int 1))) (b2 ixD (b2 ixD (vSh 1) (vSh 0)) (vC (.int 0)))) [none,some 0])) zal))))
theorem zix:FnScope ["breaks","horizon"] ["breaks","horizon"] (zak zel):=by trivial
theorem zhV {zcq:FQ} {zaq:FQ} (F:Dfn K mg "are_breaks" zel) (B:Bn mg) (c_is_break:Cal Γ P w K mg base "is_break" 2 3 zcq) (c_is_list:Cal Γ P w K mg base "is_list" 3 1 zaq):Cal Γ P w K mg base "are_breaks" 2 4 (zgr zcq zaq) :=
 F.cal (k:=3) zix (fun _ _ _ _ _ _ us hl=>match us,hl with | [_,_],_=>rfl) fun f cdv A outer s H E hr =>
  (zad (zbD (DW.dt (zdv (zbt (zbh (dC c_is_list hr (zab (zac 0) (zab zae (zab (zcR rfl B.c_MOST_BREAKS) zag))) ln3))) (zcT (zbt (zbh (zaB (zeX rfl) rfl B.z_all (by rfl) (zab (DO.de (zcs rfl (CompScope.of rfl rfl) (FvOk.of (N':=["row","horizon"]) (fv:=[none,some 1]) rfl) (za2 (zac 0)) ⟨fun _ _ _ _ _=>⟨(zao 0 (show (["row","horizon"]:List Str).Nodup by decide +kernel)),zaQ,(dC c_is_break hr (zab (zac 0) (zab (zac 1) zag)) ln2)⟩⟩)) zag))))))) (zaj (zaw zfi)) zaH) (zaj (zaw (zaB (zeX rfl) rfl B.z_all (by rfl) (zab (DO.de (zcs rfl (CompScope.of rfl rfl) (FvOk.of (N':=["place","breaks"]) (fv:=[none,some 0]) rfl) (znz rfl B.z_range (zab zae (zab (zaB zdg rfl B.z_len (by rfl) (zab (zac 0) zag)) zag))) ⟨fun _ _ _ _ _=>⟨(zao 0 (show (["place","breaks"]:List Str).Nodup by decide +kernel)),zaQ,(zew ziZ (zaA (zaA (zac 1) (zpS (zac 0) zae)) zae) (zaA (zaA (zac 1) (zac 0)) zae) (za0 _))⟩⟩)) zag)))))
def zj4:FQ:=zb9 0
  (zay (sIf (orT (zcZ (toB (cF zgz (zaa (vSh 0) (zaa (vC (.ty "str")) zal))))) (zcZ (toB (chD leD leD (vC (.int 1)) (cF zdK (zaa (vSh 0) zal)) (vC (.int 8)))))) (zbb (vC (.bl false))) zbX) (zbb (cF zkK (zaa (za1 (zaP (itS (vSh 0)) (zaJ 0) tT (chD leD leD (vC (.str "a")) (vSh 0) (vC (.str "z"))) [none])) zal))))
theorem zlG:FnScope ["thing"] ["thing"] (zak zgV):=by trivial
theorem zkE (F:Dfn K mg "is_name" zgV) (B:Bn mg)  : Cal Γ P w K mg base "is_name" 1 1 (zj4) :=
 F.cal (k:=0) zlG (fun _ _ _ _ _ _ us hl=>match us,hl with | [_],_=>rfl) fun f cdv A outer s H E hr =>
  (zad (zbD (DW.dt (zdv (zbt (zbh (zaB zeW rfl B.z_isinstance (by rfl) (zab (zac 0) (zab (zhO rfl B.z_str (by rfl)) zag))))) (zcT (zbt (zoZ zi0 zi0 zae (zaB zdg rfl B.z_len (by rfl) (zab (zac 0) zag)) (zcR rfl B.c_LONGEST_NAME)))))) (zaj (zaw zfi)) zaH) (zaj (zaw (zaB (zeX rfl) rfl B.z_all (by rfl) (zab (DO.de (zcs rfl (CompScope.of rfl rfl) (FvOk.of (N':=["sign"]) (fv:=[none]) rfl) (ztz (zac 0)) ⟨fun _ _ _ _ _=>⟨(zao 0 (show (["sign"]:List Str).Nodup by decide +kernel)),zaQ,(ziW zi0 zi0 zcD (zac 0) zcD)⟩⟩)) zag)))))
def zgf (zb0:FQ) (za6:FQ) (zaC:FQ):FQ:=zb9 0
  (zbb (zht (cF zaC (zaa (vSh 0) (zaa (vC (.int 2)) zal))) (zht (cF za6 (zaa (b2 ixD (vSh 0) (vC (.int 0))) zal)) (cF zb0 (zaa (b2 ixD (vSh 0) (vC (.int 1))) (zaa (vSh 1) zal))))))
theorem zke:FnScope ["row","horizon"] ["row","horizon"] (zak zfU):=by trivial
theorem zjW {zb0:FQ} {za6:FQ} {zaC:FQ} (F:Dfn K mg "is_bench" zfU) (B:Bn mg) (c_are_breaks:Cal Γ P w K mg base "are_breaks" 2 4 zb0) (c_is_name:Cal Γ P w K mg base "is_name" 1 1 za6) (c_is_tuple:Cal Γ P w K mg base "is_tuple" 2 1 zaC):Cal Γ P w K mg base "is_bench" 2 5 (zgf zb0 za6 zaC) :=
 F.cal (k:=4) zke (fun _ _ _ _ _ _ us hl=>match us,hl with | [_,_],_=>rfl) fun f cdv A outer s H E hr =>
  (zaj (zaw (zd7 (dC c_is_tuple hr (zab (zac 0) (zab zae zag)) ln2) (zd7 (dC c_is_name hr (zab (zaA (zac 0) zae) zag) ln1) (zeU (dC c_are_breaks hr (zab (zaA (zac 0) zae) (zab (zac 1) zag)) ln2))))))
def zez:FQ:=zb9 0
  (zbb (b2 eqD (b1 ziI (vSh 0)) (cF zdK (zaa (vSh 0) zal))))
theorem ziu:FnScope ["things"] ["things"] (zak zei):=by trivial
theorem zhS (F:Dfn K mg "are_unlike" zei) (B:Bn mg)  : Cal Γ P w K mg base "are_unlike" 1 1 (zez) :=
 F.cal (k:=0) ziu (fun _ _ _ _ _ _ us hl=>match us,hl with | [_],_=>rfl) fun f cdv A outer s H E hr =>
  (zaj (zaw (zew zf6 (znG rfl (zd9 hr) rfl B.z_len rfl B.z_set (zac 0)) (zaB zdg rfl B.z_len (by rfl) (zab (zac 0) zag)) (za0 _))))
def zfJ (zcr:FQ) (zaq:FQ) (zam:FQ):FQ:=zb9 0
  (zay (sIf (orT (zcZ (toB (cF zaq (zaa (vSh 0) (zaa (vC (.int 1)) (zaa (vC (.int 8)) zal)))))) (zcZ (toB (cF zkK (zaa (za1 (zaP (itF (vSh 0)) (zaJ 0) tT (cF zcr (zaa (vSh 0) (zaa (vSh 1) zal))) [none,some 1])) zal))))) (zbb (vC (.bl false))) zbX) (zbb (cF zam (zaa (za1 (zaP (itF (vSh 0)) (zaJ 0) tT (b2 ixD (vSh 0) (vC (.int 0))) [none])) zal))))
theorem zhI:FnScope ["benches","horizon"] ["benches","horizon"] (zak zdQ):=by trivial
theorem zho {zcr:FQ} {zaq:FQ} {zam:FQ} (F:Dfn K mg "are_benches" zdQ) (B:Bn mg) (c_is_bench:Cal Γ P w K mg base "is_bench" 2 5 zcr) (c_is_list:Cal Γ P w K mg base "is_list" 3 1 zaq) (c_are_unlike:Cal Γ P w K mg base "are_unlike" 1 1 zam):Cal Γ P w K mg base "are_benches" 2 6 (zfJ zcr zaq zam) :=
 F.cal (k:=5) zhI (fun _ _ _ _ _ _ us hl=>match us,hl with | [_,_],_=>rfl) fun f cdv A outer s H E hr =>
  (zad (zbD (DW.dt (zdv (zbt (zbh (dC c_is_list hr (zab (zac 0) (zab zae (zab (zcR rfl B.c_MOST_BENCHES) zag))) ln3))) (zcT (zbt (zbh (zaB (zeX rfl) rfl B.z_all (by rfl) (zab (DO.de (zcs rfl (CompScope.of rfl rfl) (FvOk.of (N':=["row","horizon"]) (fv:=[none,some 1]) rfl) (za2 (zac 0)) ⟨fun _ _ _ _ _=>⟨(zao 0 (show (["row","horizon"]:List Str).Nodup by decide +kernel)),zaQ,(dC c_is_bench hr (zab (zac 0) (zab (zac 1) zag)) ln2)⟩⟩)) zag))))))) (zaj (zaw zfi)) zaH) (zaj (zaw (dC c_are_unlike hr (zab (DO.de (zcs rfl (CompScope.of rfl rfl) (FvOk.of (N':=["row"]) (fv:=[none]) rfl) (za2 (zac 0)) ⟨fun _ _ _ _ _=>⟨(zao 0 (show (["row"]:List Str).Nodup by decide +kernel)),zaQ,(zaA (zac 0) zae)⟩⟩)) zag) ln1))))
def zfq (za6:FQ):FQ:=zb9 0
  (zbb (zht (cF za6 (zaa (vSh 0) zal)) (b2 ztm (vSh 0) (vSh 1))))
theorem zjp:FnScope ["thing","names"] ["thing","names"] (zak ze8):=by trivial
theorem zi5 {za6:FQ} (F:Dfn K mg "is_one_of" ze8) (B:Bn mg) (c_is_name:Cal Γ P w K mg base "is_name" 1 1 za6):Cal Γ P w K mg base "is_one_of" 2 2 (zfq za6) :=
 F.cal (k:=1) zjp (fun _ _ _ _ _ _ us hl=>match us,hl with | [_,_],_=>rfl) fun f cdv A outer s H E hr =>
  (zaj (zaw (zd7 (dC c_is_name hr (zab (zac 0) zag) ln1) (zeU (zew (ztM (zd9 hr)) (zac 0) (zac 1) (by rfl))))))
def zje (zaI:FQ) (zb5:FQ) (zaC:FQ):FQ:=zb9 0
  (zbb (zht (cF zaC (zaa (vSh 0) (zaa (vC (.int 2)) zal))) (zht (cF zb5 (zaa (b2 ixD (vSh 0) (vC (.int 0))) (zaa (vSh 1) zal))) (cF zaI (zaa (b2 ixD (vSh 0) (vC (.int 1))) (zaa (vC (.int 1)) (zaa (vSh 2) zal)))))))
theorem zmr:FnScope ["row","bench_names","horizon"] ["row","bench_names","horizon"] (zak ziz):=by trivial
theorem zl5 {zaI:FQ} {zb5:FQ} {zaC:FQ} (F:Dfn K mg "is_way" ziz) (B:Bn mg) (c_is_within:Cal Γ P w K mg base "is_within" 3 2 zaI) (c_is_one_of:Cal Γ P w K mg base "is_one_of" 2 2 zb5) (c_is_tuple:Cal Γ P w K mg base "is_tuple" 2 1 zaC):Cal Γ P w K mg base "is_way" 3 3 (zje zaI zb5 zaC) :=
 F.cal (k:=2) zmr (fun _ _ _ _ _ _ us hl=>match us,hl with | [_,_,_],_=>rfl) fun f cdv A outer s H E hr =>
  (zaj (zaw (zd7 (dC c_is_tuple hr (zab (zac 0) (zab zae zag)) ln2) (zd7 (dC c_is_one_of hr (zab (zaA (zac 0) zae) (zab (zac 1) zag)) ln2) (zeU (dC c_is_within hr (zab (zaA (zac 0) zae) (zab zae (zab (zac 2) zag))) ln3))))))
def zio (zc6:FQ) (zaq:FQ) (zam:FQ):FQ:=zb9 0
  (zay (sIf (orT (zcZ (toB (cF zaq (zaa (vSh 0) (zaa (vC (.int 1)) (zaa (vC (.int 4)) zal)))))) (zcZ (toB (cF zkK (zaa (za1 (zaP (itF (vSh 0)) (zaJ 0) tT (cF zc6 (zaa (vSh 0) (zaa (vSh 1) (zaa (vSh 2) zal)))) [none,some 1,some 2])) zal))))) (zbb (vC (.bl false))) zbX) (zbb (cF zam (zaa (za1 (zaP (itF (vSh 0)) (zaJ 0) tT (b2 ixD (vSh 0) (vC (.int 0))) [none])) zal))))
theorem zkf:FnScope ["ways","bench_names","horizon"] ["ways","bench_names","horizon"] (zak zfV):=by trivial
theorem zjX {zc6:FQ} {zaq:FQ} {zam:FQ} (F:Dfn K mg "are_ways" zfV) (B:Bn mg) (c_is_way:Cal Γ P w K mg base "is_way" 3 3 zc6) (c_is_list:Cal Γ P w K mg base "is_list" 3 1 zaq) (c_are_unlike:Cal Γ P w K mg base "are_unlike" 1 1 zam):Cal Γ P w K mg base "are_ways" 3 4 (zio zc6 zaq zam) :=
 F.cal (k:=3) zkf (fun _ _ _ _ _ _ us hl=>match us,hl with | [_,_,_],_=>rfl) fun f cdv A outer s H E hr =>
  (zad (zbD (DW.dt (zdv (zbt (zbh (dC c_is_list hr (zab (zac 0) (zab zae (zab (zcR rfl B.c_MOST_WAYS) zag))) ln3))) (zcT (zbt (zbh (zaB (zeX rfl) rfl B.z_all (by rfl) (zab (DO.de (zcs rfl (CompScope.of rfl rfl) (FvOk.of (N':=["row","bench_names","horizon"]) (fv:=[none,some 1,some 2]) rfl) (za2 (zac 0)) ⟨fun _ _ _ _ _=>⟨(zao 0 (show (["row","bench_names","horizon"]:List Str).Nodup by decide +kernel)),zaQ,(dC c_is_way hr (zab (zac 0) (zab (zac 1) (zab (zac 2) zag))) ln3)⟩⟩)) zag))))))) (zaj (zaw zfi)) zaH) (zaj (zaw (dC c_are_unlike hr (zab (DO.de (zcs rfl (CompScope.of rfl rfl) (FvOk.of (N':=["row"]) (fv:=[none]) rfl) (za2 (zac 0)) ⟨fun _ _ _ _ _=>⟨(zao 0 (show (["row"]:List Str).Nodup by decide +kernel)),zaQ,(zaA (zac 0) zae)⟩⟩)) zag) ln1))))
def zhw (za6:FQ) (zaC:FQ) (zcy:FQ):FQ:=zb9 0
  (zay (sIf (orT (zcZ (toB (cF zaC (zaa (vSh 0) (zaa (vC (.int 3)) zal))))) (orT (zcZ (toB (cF za6 (zaa (b2 ixD (vSh 0) (vC (.int 0))) zal)))) (zcZ (toB (cF za6 (zaa (b2 ixD (vSh 0) (vC (.int 1))) zal)))))) (zbb (vC (.bl false))) zbX) (zbb (cF zcy (zaa (b2 ixD (vSh 0) (vC (.int 2))) (zaa (vSh 1) (zaa (vSh 2) zal))))))
theorem zlF:FnScope ["row","bench_names","horizon"] ["row","bench_names","horizon"] (zak zgU):=by trivial
theorem zkD {za6:FQ} {zaC:FQ} {zcy:FQ} (F:Dfn K mg "is_step" zgU) (B:Bn mg) (c_is_name:Cal Γ P w K mg base "is_name" 1 1 za6) (c_is_tuple:Cal Γ P w K mg base "is_tuple" 2 1 zaC) (c_are_ways:Cal Γ P w K mg base "are_ways" 3 4 zcy):Cal Γ P w K mg base "is_step" 3 5 (zhw za6 zaC zcy) :=
 F.cal (k:=4) zlF (fun _ _ _ _ _ _ us hl=>match us,hl with | [_,_,_],_=>rfl) fun f cdv A outer s H E hr =>
  (zad (zbD (DW.dt (zdv (zbt (zbh (dC c_is_tuple hr (zab (zac 0) (zab zae zag)) ln2))) (zdv (zbt (zbh (dC c_is_name hr (zab (zaA (zac 0) zae) zag) ln1))) (zcT (zbt (zbh (dC c_is_name hr (zab (zaA (zac 0) zae) zag) ln1))))))) (zaj (zaw zfi)) zaH) (zaj (zaw (dC c_are_ways hr (zab (zaA (zac 0) zae) (zab (zac 1) (zab (zac 2) zag))) ln3))))
def zhz (zcF:FQ) (zaq:FQ) (zam:FQ):FQ:=zb9 0
  (zay (sIf (orT (zcZ (toB (cF zaq (zaa (vSh 0) (zaa (vC (.int 1)) (zaa (vC (.int 40)) zal)))))) (zcZ (toB (cF zkK (zaa (za1 (zaP (itF (vSh 0)) (zaJ 0) tT (cF zcF (zaa (vSh 0) (zaa (vSh 1) (zaa (vSh 2) zal)))) [none,some 1,some 2])) zal))))) (zbb (vC (.bl false))) zbX) (zbb (cF zam (zaa (za1 (zaP (itF (vSh 0)) (zaJ 0) tT (b2 ixD (vSh 0) (vC (.int 0))) [none])) zal))))
theorem zjq:FnScope ["steps","bench_names","horizon"] ["steps","bench_names","horizon"] (zak ze9):=by trivial
theorem zi6 {zcF:FQ} {zaq:FQ} {zam:FQ} (F:Dfn K mg "are_steps" ze9) (B:Bn mg) (c_is_step:Cal Γ P w K mg base "is_step" 3 5 zcF) (c_is_list:Cal Γ P w K mg base "is_list" 3 1 zaq) (c_are_unlike:Cal Γ P w K mg base "are_unlike" 1 1 zam):Cal Γ P w K mg base "are_steps" 3 6 (zhz zcF zaq zam) :=
 F.cal (k:=5) zjq (fun _ _ _ _ _ _ us hl=>match us,hl with | [_,_,_],_=>rfl) fun f cdv A outer s H E hr =>
  (zad (zbD (DW.dt (zdv (zbt (zbh (dC c_is_list hr (zab (zac 0) (zab zae (zab (zcR rfl B.c_MOST_STEPS) zag))) ln3))) (zcT (zbt (zbh (zaB (zeX rfl) rfl B.z_all (by rfl) (zab (DO.de (zcs rfl (CompScope.of rfl rfl) (FvOk.of (N':=["row","bench_names","horizon"]) (fv:=[none,some 1,some 2]) rfl) (za2 (zac 0)) ⟨fun _ _ _ _ _=>⟨(zao 0 (show (["row","bench_names","horizon"]:List Str).Nodup by decide +kernel)),zaQ,(dC c_is_step hr (zab (zac 0) (zab (zac 1) (zab (zac 2) zag))) ln3)⟩⟩)) zag))))))) (zaj (zaw zfi)) zaH) (zaj (zaw (dC c_are_unlike hr (zab (DO.de (zcs rfl (CompScope.of rfl rfl) (FvOk.of (N':=["row"]) (fv:=[none]) rfl) (za2 (zac 0)) ⟨fun _ _ _ _ _=>⟨(zao 0 (show (["row"]:List Str).Nodup by decide +kernel)),zaQ,(zaA (zac 0) zae)⟩⟩)) zag) ln1))))
def ziq (zaq:FQ) (zam:FQ):FQ:=zb9 2
  (zay (sIf (orT (zcZ (toB (cF zaq (zaa (vSh 0) (zaa (vC (.int 0)) (zaa (vC (.int 40)) zal)))))) (zcZ (toB (cF zkK (zaa (za1 (zaP (itF (vSh 0)) (zaJ 0) tT noE [none,some 1,some 2])) zal))))) (zbb (vC (.bl false))) zbX) (zay (zhG 3 (szF zal)) (zay (zeR (itF (vSh 0)) (zaJ 4) sNo) (zh6 3 (zbb (zht (cF zam (zaa (za1 (zaP (itF (vSh 0)) (zaJ 0) tT (b2 ixD (vSh 0) (vC (.int 0))) [none])) zal)) (cF zam (zaa (vSh 3) zal))))))))
theorem ze3:FnScope ["jobs","step_names","horizon","members","row"] ["jobs","step_names","horizon"] (zak zfW):=by trivial
theorem zjY {zaq:FQ} {zam:FQ} (F:Dfn K mg "are_jobs" zfW) (B:Bn mg) (c_is_list:Cal Γ P w K mg base "is_list" 3 1 zaq) (c_are_unlike:Cal Γ P w K mg base "are_unlike" 1 1 zam):Cal Γ P w K mg base "are_jobs" 3 2 (ziq zaq zam) :=
 F.cal (k:=1) ze3 (fun _ _ _ _ _ _ us hl=>match us,hl with | [_,_,_],_=>rfl) fun f cdv A outer s H E hr =>
  (zad (zbD (DW.dt (zdv (zbt (zbh (dC c_is_list hr (zab (zac 0) (zab zae (zab (zcR rfl B.c_MOST_JOBS) zag))) ln3))) (zcT (zbt (zbh (zaB (zeX rfl) rfl B.z_all (by rfl) (zab (DO.de (zcs rfl (CompScope.of rfl rfl) (FvOk.of (N':=["row","step_names","horizon"]) (fv:=[none,some 1,some 2]) rfl) (za2 (zac 0)) ⟨fun _ _ _ _ _=>⟨(zao 0 (show (["row","step_names","horizon"]:List Str).Nodup by decide +kernel)),zaQ,zo9⟩⟩)) zag))))))) (zaj (zaw zfi)) zaH) (zad (zdG 3 ze3.nd (zbF zag)) (zad (zcg PassesOwn.never rfl (za2 (zac 0)) (zao 4 ze3.nd) (zaj ziR)) (zc1 3 (zaj (zaw (zd7 (dC c_are_unlike hr (zab (DO.de (zcs rfl (CompScope.of rfl rfl) (FvOk.of (N':=["row"]) (fv:=[none]) rfl) (za2 (zac 0)) ⟨fun _ _ _ _ _=>⟨(zao 0 (show (["row"]:List Str).Nodup by decide +kernel)),zaQ,(zaA (zac 0) zae)⟩⟩)) zag) ln1) (zeU (dC c_are_unlike hr (zab (zac 3) zag) ln1)))))))))
def zgq (zaq:FQ) (zam:FQ):FQ:=zb9 0
  (zay (sIf (orT (zcZ (toB (cF zaq (zaa (vSh 0) (zaa (vC (.int 0)) (zaa (vC (.int 100)) zal)))))) (zcZ (toB (cF zkK (zaa (za1 (zaP (itF (vSh 0)) (zaJ 0) tT noE [none,some 1,some 2])) zal))))) (zbb (vC (.bl false))) zbX) (zbb (cF zam (zaa (za1 (zaP (itF (vSh 0)) (zaJ 0) tT (slF (vSh 0) pN (pS (vC (.int 3)))) [none])) zal))))
theorem ziw:FnScope ["setups","bench_names","horizon"] ["setups","bench_names","horizon"] (zak zek):=by trivial
theorem zhU {zaq:FQ} {zam:FQ} (F:Dfn K mg "are_setups" zek) (B:Bn mg) (c_is_list:Cal Γ P w K mg base "is_list" 3 1 zaq) (c_are_unlike:Cal Γ P w K mg base "are_unlike" 1 1 zam):Cal Γ P w K mg base "are_setups" 3 2 (zgq zaq zam) :=
 F.cal (k:=1) ziw (fun _ _ _ _ _ _ us hl=>match us,hl with | [_,_,_],_=>rfl) fun f cdv A outer s H E hr =>
  (zad (zbD (DW.dt (zdv (zbt (zbh (dC c_is_list hr (zab (zac 0) (zab zae (zab (zcR rfl B.c_MOST_SETUPS) zag))) ln3))) (zcT (zbt (zbh (zaB (zeX rfl) rfl B.z_all (by rfl) (zab (DO.de (zcs rfl (CompScope.of rfl rfl) (FvOk.of (N':=["row","bench_names","horizon"]) (fv:=[none,some 1,some 2]) rfl) (za2 (zac 0)) ⟨fun _ _ _ _ _=>⟨(zao 0 (show (["row","bench_names","horizon"]:List Str).Nodup by decide +kernel)),zaQ,zo9⟩⟩)) zag))))))) (zaj (zaw zfi)) zaH) (zaj (zaw (dC c_are_unlike hr (zab (DO.de (zcs rfl (CompScope.of rfl rfl) (FvOk.of (N':=["row"]) (fv:=[none]) rfl) (za2 (zac 0)) ⟨fun _ _ _ _ _=>⟨(zao 0 (show (["row"]:List Str).Nodup by decide +kernel)),zaQ,(zcd (zac 0) zcL (zcx zae))⟩⟩)) zag) ln1))))
def zhA (zaq:FQ) (zam:FQ):FQ:=zb9 0
  (zay (sIf (orT (zcZ (toB (cF zaq (zaa (vSh 0) (zaa (vC (.int 0)) (zaa (vC (.int 100)) zal)))))) (zcZ (toB (cF zkK (zaa (za1 (zaP (itF (vSh 0)) (zaJ 0) tT noE [none,some 1,some 2])) zal))))) (zbb (vC (.bl false))) zbX) (zbb (cF zam (zaa (za1 (zaP (itF (vSh 0)) (zaJ 0) tT (slF (vSh 0) pN (pS (vC (.int 2)))) [none])) zal))))
theorem zjr:FnScope ["links","step_names","horizon"] ["links","step_names","horizon"] (zak zfa):=by trivial
theorem zi7 {zaq:FQ} {zam:FQ} (F:Dfn K mg "are_links" zfa) (B:Bn mg) (c_is_list:Cal Γ P w K mg base "is_list" 3 1 zaq) (c_are_unlike:Cal Γ P w K mg base "are_unlike" 1 1 zam):Cal Γ P w K mg base "are_links" 3 2 (zhA zaq zam) :=
 F.cal (k:=1) zjr (fun _ _ _ _ _ _ us hl=>match us,hl with | [_,_,_],_=>rfl) fun f cdv A outer s H E hr =>
  (zad (zbD (DW.dt (zdv (zbt (zbh (dC c_is_list hr (zab (zac 0) (zab zae (zab (zcR rfl B.c_MOST_LINKS) zag))) ln3))) (zcT (zbt (zbh (zaB (zeX rfl) rfl B.z_all (by rfl) (zab (DO.de (zcs rfl (CompScope.of rfl rfl) (FvOk.of (N':=["row","step_names","horizon"]) (fv:=[none,some 1,some 2]) rfl) (za2 (zac 0)) ⟨fun _ _ _ _ _=>⟨(zao 0 (show (["row","step_names","horizon"]:List Str).Nodup by decide +kernel)),zaQ,zo9⟩⟩)) zag))))))) (zaj (zaw zfi)) zaH) (zaj (zaw (dC c_are_unlike hr (zab (DO.de (zcs rfl (CompScope.of rfl rfl) (FvOk.of (N':=["row"]) (fv:=[none]) rfl) (za2 (zac 0)) ⟨fun _ _ _ _ _=>⟨(zao 0 (show (["row"]:List Str).Nodup by decide +kernel)),zaQ,(zcd (zac 0) zcL (zcx zae))⟩⟩)) zag) ln1))))
def zgp (zaq:FQ) (zam:FQ):FQ:=zb9 0
  (zay (sIf (orT (zcZ (toB (cF zaq (zaa (vSh 0) (zaa (vC (.int 0)) (zaa (vC (.int 6)) zal)))))) (zcZ (toB (cF zkK (zaa (za1 (zaP (itF (vSh 0)) (zaJ 0) tT noE [none,some 1])) zal))))) (zbb (vC (.bl false))) zbX) (zbb (cF zam (zaa (za1 (zaP (itF (vSh 0)) (zaJ 0) tT (b2 ixD (vSh 0) (vC (.int 0))) [none])) zal))))
theorem ziv:FnScope ["stocks","step_names"] ["stocks","step_names"] (zak zej):=by trivial
theorem zhT {zaq:FQ} {zam:FQ} (F:Dfn K mg "are_stocks" zej) (B:Bn mg) (c_is_list:Cal Γ P w K mg base "is_list" 3 1 zaq) (c_are_unlike:Cal Γ P w K mg base "are_unlike" 1 1 zam):Cal Γ P w K mg base "are_stocks" 2 2 (zgp zaq zam) :=
 F.cal (k:=1) ziv (fun _ _ _ _ _ _ us hl=>match us,hl with | [_,_],_=>rfl) fun f cdv A outer s H E hr =>
  (zad (zbD (DW.dt (zdv (zbt (zbh (dC c_is_list hr (zab (zac 0) (zab zae (zab (zcR rfl B.c_MOST_STOCKS) zag))) ln3))) (zcT (zbt (zbh (zaB (zeX rfl) rfl B.z_all (by rfl) (zab (DO.de (zcs rfl (CompScope.of rfl rfl) (FvOk.of (N':=["row","step_names"]) (fv:=[none,some 1]) rfl) (za2 (zac 0)) ⟨fun _ _ _ _ _=>⟨(zao 0 (show (["row","step_names"]:List Str).Nodup by decide +kernel)),zaQ,zo9⟩⟩)) zag))))))) (zaj (zaw zfi)) zaH) (zaj (zaw (dC c_are_unlike hr (zab (DO.de (zcs rfl (CompScope.of rfl rfl) (FvOk.of (N':=["row"]) (fv:=[none]) rfl) (za2 (zac 0)) ⟨fun _ _ _ _ _=>⟨(zao 0 (show (["row"]:List Str).Nodup by decide +kernel)),zaQ,(zaA (zac 0) zae)⟩⟩)) zag) ln1))))
def zd8 (zaI:FQ) (zbM:FQ) (zch:FQ) (zcz:FQ) (zbZ:FQ) (zci:FQ) (zbY:FQ):FQ:=zb9 2
  (zay (sIf (zcZ (toB (cF zaI (zaa (vSh 6) (zaa (vC (.int 1)) (zaa (vC (.int 1000000)) zal)))))) (zbb (vC (.str "horizon"))) zbX) (zay (sIf (zcZ (toB (cF zbM (zaa (vSh 0) (zaa (vSh 6) zal))))) (zbb (vC (.str "benches"))) zbX) (zay (zba 7 (za1 (zaP (itF (vSh 0)) (zaJ 0) tT (b2 ixD (vSh 0) (vC (.int 0))) [none]))) (zay (sIf (zcZ (toB (cF zch (zaa (vSh 1) (zaa (vSh 7) (zaa (vSh 6) zal)))))) (zbb (vC (.str "steps"))) zbX) (zay (zba 8 (za1 (zaP (itF (vSh 1)) (zaJ 0) tT (b2 ixD (vSh 0) (vC (.int 0))) [none]))) (zay (sIf (zcZ (toB (cF zcz (zaa (vSh 2) (zaa (vSh 8) (zaa (vSh 6) zal)))))) (zbb (vC (.str "jobs"))) zbX) (zay (sIf (zcZ (toB (cF zbZ (zaa (vSh 3) (zaa (vSh 7) (zaa (vSh 6) zal)))))) (zbb (vC (.str "setups"))) zbX) (zay (sIf (zcZ (toB (cF zci (zaa (vSh 4) (zaa (vSh 8) (zaa (vSh 6) zal)))))) (zbb (vC (.str "links"))) zbX) (zay (sIf (zcZ (toB (cF zbY (zaa (vSh 5) (zaa (vSh 8) zal))))) (zbb (vC (.str "stocks"))) zbX) (zbb (vC .non)))))))))))
theorem zcI:FnScope ["benches","steps","jobs","setups","links","stocks","horizon","bench_names","step_names"] ["benches","steps","jobs","setups","links","stocks","horizon"] (zak zcW):=by trivial
theorem zfG {zaI:FQ} {zbM:FQ} {zch:FQ} {zcz:FQ} {zbZ:FQ} {zci:FQ} {zbY:FQ} (F:Dfn K mg "first_bad_part" zcW) (B:Bn mg) (c_is_within:Cal Γ P w K mg base "is_within" 3 2 zaI) (c_are_benches:Cal Γ P w K mg base "are_benches" 2 6 zbM) (c_are_steps:Cal Γ P w K mg base "are_steps" 3 6 zch) (c_are_jobs:Cal Γ P w K mg base "are_jobs" 3 2 zcz) (c_are_setups:Cal Γ P w K mg base "are_setups" 3 2 zbZ) (c_are_links:Cal Γ P w K mg base "are_links" 3 2 zci) (c_are_stocks:Cal Γ P w K mg base "are_stocks" 2 2 zbY):Cal Γ P w K mg base "first_bad_part" 7 7 (zd8 zaI zbM zch zcz zbZ zci zbY) :=
 F.cal (k:=6) zcI (fun _ _ _ _ _ _ us hl=>match us,hl with | [_,_,_,_,_,_,_],_=>rfl) fun f cdv A outer s H E hr =>
  (zad (zbD (zbt (zbh (dC c_is_within hr (zab (zac 6) (zab zae (zab (zcR rfl B.c_MOST_HORIZON) zag))) ln3))) (zaj (zaw zcD)) zaH) (zad (zbD (zbt (zbh (dC c_are_benches hr (zab (zac 0) (zab (zac 6) zag)) ln2))) (zaj (zaw zcD)) zaH) (zad (zlZ 7 zcI.nd rfl (CompScope.of rfl rfl) (FvOk.of (N':=["row"]) (fv:=[none]) rfl) (za2 (zac 0)) ⟨fun _ _ _ _ _=>⟨(zao 0 (show (["row"]:List Str).Nodup by decide +kernel)),zaQ,(zaA (zac 0) zae)⟩⟩) (zad (zbD (zbt (zbh (dC c_are_steps hr (zab (zac 1) (zab (zac 7) (zab (zac 6) zag))) ln3))) (zaj (zaw zcD)) zaH) (zad (zlZ 8 zcI.nd rfl (CompScope.of rfl rfl) (FvOk.of (N':=["row"]) (fv:=[none]) rfl) (za2 (zac 1)) ⟨fun _ _ _ _ _=>⟨(zao 0 (show (["row"]:List Str).Nodup by decide +kernel)),zaQ,(zaA (zac 0) zae)⟩⟩) (zad (zbD (zbt (zbh (dC c_are_jobs hr (zab (zac 2) (zab (zac 8) (zab (zac 6) zag))) ln3))) (zaj (zaw zcD)) zaH) (zad (zbD (zbt (zbh (dC c_are_setups hr (zab (zac 3) (zab (zac 7) (zab (zac 6) zag))) ln3))) (zaj (zaw zcD)) zaH) (zad (zbD (zbt (zbh (dC c_are_links hr (zab (zac 4) (zab (zac 8) (zab (zac 6) zag))) ln3))) (zaj (zaw zcD)) zaH) (zad (zbD (zbt (zbh (dC c_are_stocks hr (zab (zac 5) (zab (zac 8) zag)) ln2))) (zaj (zaw zcD)) zaH) (zaj (zaw zcv)))))))))))
def zdy (zaz:FQ):FQ:=zb9 0
  (zay (sIf (toB (cF zgz (zaa (vSh 0) (zaa (vC (.ty "list")) zal)))) (zbb (za1 (zaP (itF (vSh 0)) (zaJ 0) tT (cF zaz (zaa (vSh 0) zal)) [none]))) zbX) (zay (sIf (toB (cF zgz (zaa (vSh 0) (zaa (vC (.ty "tuple")) zal)))) (zbb (cF zmg (zaa (za1 (zaP (itF (vSh 0)) (zaJ 0) tT (cF zaz (zaa (vSh 0) zal)) [none])) zal))) zbX) (zbb (vSh 0))))
theorem zon:FnScope ["thing"] ["thing"] (zak zkg):=by trivial
theorem znS {k:Nat} {zaz:FQ} (F:Dfn K mg "fresh" zkg) (B:Bn mg) (c_fresh:Cal Γ P w K mg base "fresh" 1 k zaz):Cal Γ P w K mg base "fresh" 1 (k+1) (zdy zaz) :=
 F.cal (k:=k) zon (fun _ _ _ _ _ _ us hl=>match us,hl with | [_],_=>rfl) fun f cdv A outer s H E hr =>
  (zad (zbD (zbh (zaB zeW rfl B.z_isinstance (by rfl) (zab (zac 0) (zab (zhO rfl B.z_list (by rfl)) zag)))) (zaj (zaw (DO.de (zcs rfl (CompScope.of rfl rfl) (FvOk.of (N':=["part"]) (fv:=[none]) rfl) (za2 (zac 0)) ⟨fun _ _ _ _ _=>⟨(zao 0 (show (["part"]:List Str).Nodup by decide +kernel)),zaQ,(zij c_fresh hr (qw _) rfl (zab (zac 0) zag) ln1)⟩⟩)))) zaH) (zad (zbD (zbh (zaB zeW rfl B.z_isinstance (by rfl) (zab (zac 0) (zab (zhO rfl B.z_tuple (by rfl)) zag)))) (zaj (zaw (zcU zod rfl B.z_tuple (by rfl) (zab (DO.de (zcs rfl (CompScope.of rfl rfl) (FvOk.of (N':=["part"]) (fv:=[none]) rfl) (za2 (zac 0)) ⟨fun _ _ _ _ _=>⟨(zao 0 (show (["part"]:List Str).Nodup by decide +kernel)),zaQ,(zij c_fresh hr (qw _) rfl (zab (zac 0) zag) ln1)⟩⟩)) zag)))) zaH) (zaj (zaw (zac 0)))))
def zeC (zbg:FQ) (zaz:FQ):FQ:=zr3 3 "Shop"
  (zay (zba 8 (cF zbg (zaa (vSh 1) (zaa (vSh 2) (zaa (vSh 3) (zaa (vSh 4) (zaa (vSh 5) (zaa (vSh 6) (zaa (vSh 7) zal))))))))) (zay (sIf (toB (b2 zfE (vSh 8) (vC .non))) sNo zbX) (zay (zfz "Shop" "benches" 0 (cF zaz (zaa (vSh 1) zal))) (zay (zfz "Shop" "steps" 0 (cF zaz (zaa (vSh 2) zal))) (zay (zfz "Shop" "jobs" 0 (cF zaz (zaa (vSh 3) zal))) (zay (zfz "Shop" "setups" 0 (cF zaz (zaa (vSh 4) zal))) (zay (zfz "Shop" "links" 0 (cF zaz (zaa (vSh 5) zal))) (zay (zfz "Shop" "stocks" 0 (cF zaz (zaa (vSh 6) zal))) (zay (zfz "Shop" "horizon" 0 (vSh 7)) (zay (zfz "Shop" "bench_by_name" 0 (cF zgm (zaa (za1 (zaP (itF (zhL "Shop" "benches" 0)) (zaJ 0) tT (zbW (szF (zaa (b2 ixD (vSh 0) (vC (.int 0))) (zaa (vSh 0) zal)))) [none])) zal))) (zay (zfz "Shop" "step_by_name" 0 (cF zgm (zaa (za1 (zaP (itF (zhL "Shop" "steps" 0)) (zaJ 0) tT (zbW (szF (zaa (b2 ixD (vSh 0) (vC (.int 0))) (zaa (vSh 0) zal)))) [none])) zal))) (zay (zfz "Shop" "setup_by_names" 0 (cF zlp (zaa (za1 (zaP (itF (zhL "Shop" "setups" 0)) (zaJ 0) tT (zbW (szF (zaa (slF (vSh 0) pN (pS (vC (.int 3)))) (zaa (b2 ixD (vSh 0) (vC (.int 3))) zal)))) [none])) zal))) (zay (zr0 "Shop" "job_by_step" 0) (zeR (itF (zhL "Shop" "jobs" 0)) (zaJ 9) sNo))))))))))))))
theorem zcV:FnScope ["self","benches","steps","jobs","setups","links","stocks","horizon","part","row","step"] ["self","benches","steps","jobs","setups","links","stocks","horizon"] (zak zdb):=by trivial
theorem zga {zbg:FQ} {zaz:FQ} {C:Addr} (O:ClsOk Γ K mg "Shop" C) (F:DfnM K C "Shop" "__init__" "Shop.__init__" zdb) (B:Bn mg) (c_first_bad_part:Cal Γ P w K mg base "first_bad_part" 7 7 zbg) (c_fresh:Cal Γ P w K mg base "fresh" 1 8 zaz) (cf_Shop:CF Γ K "Shop" zc2):CalI Γ P w K mg base "Shop" 7 9 (zeC zbg zaz) :=
 DfnM.calI (k:=8) O F zcV (fun _ _ _ _ _ _ us hl=>match us,hl with | [_,_,_,_,_,_,_,_],_=>rfl) fun f y cdv A outer s H E hr =>
  (zad (zaG 8 zcV.nd (dC (c_first_bad_part.re y) hr (zab (zac 1) (zab (zac 2) (zab (zac 3) (zab (zac 4) (zab (zac 5) (zab (zac 6) (zab (zac 7) zag))))))) ln7)) (zad (zbD (zbe zgN (zac 8) zcv (za0 _)) (zaj ziR) zaH) (zad (zdw 0 (cf_Shop.re y) (.head _) (dC (c_fresh.re y) hr (zab (zac 1) zag) ln1)) (zad (zdw 0 (cf_Shop.re y) (.tail _ (.head _)) (dC (c_fresh.re y) hr (zab (zac 2) zag) ln1)) (zad (zdw 0 (cf_Shop.re y) (.tail _ (.tail _ (.head _))) (dC (c_fresh.re y) hr (zab (zac 3) zag) ln1)) (zad (zdw 0 (cf_Shop.re y) (.tail _ (.tail _ (.tail _ (.head _)))) (dC (c_fresh.re y) hr (zab (zac 4) zag) ln1)) (zad (zdw 0 (cf_Shop.re y) (.tail _ (.tail _ (.tail _ (.tail _ (.head _))))) (dC (c_fresh.re y) hr (zab (zac 5) zag) ln1)) (zad (zdw 0 (cf_Shop.re y) (.tail _ (.tail _ (.tail _ (.tail _ (.tail _ (.head _)))))) (dC (c_fresh.re y) hr (zab (zac 6) zag) ln1)) (zad (zdw 0 (cf_Shop.re y) (.tail _ (.tail _ (.tail _ (.tail _ (.tail _ (.tail _ (.head _))))))) (zac 7)) (zad (zdw 0 (cf_Shop.re y) (.tail _ (.tail _ (.tail _ (.tail _ (.tail _ (.tail _ (.tail _ (.head _)))))))) (zcU (zkX rfl (zd9 hr)) rfl B.z_dict (by rfl) (zab (DO.de (zcs rfl (CompScope.of rfl rfl) (FvOk.of (N':=["row"]) (fv:=[none]) rfl) (za2 (ziV 0 (cf_Shop.re y) (.head _))) ⟨fun _ _ _ _ _=>⟨(zao 0 (show (["row"]:List Str).Nodup by decide +kernel)),zaQ,(zbJ (zab (zaA (zac 0) zae) (zab (zac 0) zag)))⟩⟩)) zag))) (zad (zdw 0 (cf_Shop.re y) (.tail _ (.tail _ (.tail _ (.tail _ (.tail _ (.tail _ (.tail _ (.tail _ (.head _))))))))) (zcU (zkX rfl (zd9 hr)) rfl B.z_dict (by rfl) (zab (DO.de (zcs rfl (CompScope.of rfl rfl) (FvOk.of (N':=["row"]) (fv:=[none]) rfl) (za2 (ziV 0 (cf_Shop.re y) (.tail _ (.head _)))) ⟨fun _ _ _ _ _=>⟨(zao 0 (show (["row"]:List Str).Nodup by decide +kernel)),zaQ,(zbJ (zab (zaA (zac 0) zae) (zab (zac 0) zag)))⟩⟩)) zag))) (zad (zdw 0 (cf_Shop.re y) (.tail _ (.tail _ (.tail _ (.tail _ (.tail _ (.tail _ (.tail _ (.tail _ (.tail _ (.head _)))))))))) (zcU (zof rfl (zd9 hr)) rfl B.z_dict (by rfl) (zab (DO.de (zcs rfl (CompScope.of rfl rfl) (FvOk.of (N':=["row"]) (fv:=[none]) rfl) (za2 (ziV 0 (cf_Shop.re y) (.tail _ (.tail _ (.tail _ (.head _)))))) ⟨fun _ _ _ _ _=>⟨(zao 0 (show (["row"]:List Str).Nodup by decide +kernel)),zaQ,(zbJ (zab (zcd (zac 0) zcL (zcx zae)) (zab (zaA (zac 0) zae) zag)))⟩⟩)) zag))) (zad (ztv 0 (cf_Shop.re y) (.tail _ (.tail _ (.tail _ (.tail _ (.tail _ (.tail _ (.tail _ (.tail _ (.tail _ (.tail _ (.head _)))))))))))) (zaj (zcg PassesOwn.never rfl (za2 (ziV 0 (cf_Shop.re y) (.tail _ (.tail _ (.head _))))) (zao 9 zcV.nd) (zaj ziR))))))))))))))))
def zhB (zbq:FQ):FQ:=zb9 0
  (zbb (cF zbq (zaa (b2 ixD (vSh 0) (vC (.int 0))) (zaa (b2 ixD (vSh 0) (vC (.int 1))) (zaa (b2 ixD (vSh 0) (vC (.int 2))) (zaa (b2 ixD (vSh 0) (vC (.int 3))) (zaa (b2 ixD (vSh 0) (vC (.int 4))) (zaa (b2 ixD (vSh 0) (vC (.int 5))) (zaa (b2 ixD (vSh 0) (vC (.int 6))) zal)))))))))
theorem zjs:FnScope ["_law_lists_here"] ["_law_lists_here"] (zak zfb):=by trivial
theorem zi8 {zbq:FQ} (F:Dfn K mg "_law_shop" zfb) (B:Bn mg) (c_Shop___init__:CalI Γ P w K mg base "Shop" 7 9 zbq):Cal Γ P w K mg base "_law_shop" 1 11 (zhB zbq) :=
 F.cal (k:=10) zjs (fun _ _ _ _ _ _ us hl=>match us,hl with | [_],_=>rfl) fun f cdv A outer s H E hr =>
  (zaj (zaw (zrA c_Shop___init__ hr (by decide) rfl (zab (zaA (zac 0) zae) (zab (zaA (zac 0) zae) (zab (zaA (zac 0) zae) (zab (zaA (zac 0) zae) (zab (zaA (zac 0) zae) (zab (zaA (zac 0) zae) (zab (zaA (zac 0) zae) zag))))))) ln7)))
def zeB (zai:FQ):FQ:=zb9 11
  (zay (zhG 2 (zre (vSh 0))) (zay (ztY 3) (zay (ztY 4) (zay (zba 5 (vC (.int 0))) (zay (zeR (itE (cF zai (zaa (vSh 1) (zaa (vC (.int 3)) (zaa (b2 zdX (za1 (szF (zaa (vC (.int 7)) zal))) (b2 zdX (vC (.int 2)) (cF zdK (zaa (vSh 0) zal)))) zal))))) (zbC 2 (zau (zaJ 6) (zau (zaJ 7) zbB))) (sIf (toB (b2 eqD (b2 zb6 (vSh 6) (vC (.int 2))) (vC (.int 0)))) (zay (zpy 2 (bwE 2 (b2 zb6 (vSh 7) (cF zdK (zaa (vSh 2) zal)))) (zbC 3 (zau (zaJ 8) (zau (zaJ 9) (zau (zaJ 10) zbB))))) (zay (zoo (zbC 2 (zau (zaJ 11) (zau (zaJ 12) zbB))) (b2 ixD (vSh 10) (b2 zb6 (vSh 7) (cF zdK (zaa (vSh 10) zal))))) (zay (zeS 3 (vSh 8) (zbW (szF (zaa (vSh 11) (zaa (vSh 5) zal))))) (zeS 4 (vSh 8) (b2 zbv (vSh 5) (vSh 12)))))) (zba 5 (zsd 4 (b2 zbv (b1 zhM (vSh 4)) (b2 zdX (vSh 7) (vSh 7))))))) (zlI 4 (zlI 3 (zbb (zbW (szF (zaa (vSh 3) (zaa (vSh 4) zal))))))))))))
theorem zaX:FnScope ["_law_steps_here","_law_cell_here","_law_order","_law_plan","_law_ends","_law_free","_law_k","_law_number","_law_name_here","_law_kind","_law_ways","_law_bench","_law_length"] ["_law_steps_here","_law_cell_here"] (zak zer):=by trivial
theorem zh1 {zai:FQ} (F:Dfn K mg "_law_drawn" zer) (B:Bn mg) (c__law_digits:Cal Γ P w K mg base "_law_digits" 3 1 zai):Cal Γ P w K mg base "_law_drawn" 2 2 (zeB zai) :=
 F.cal (k:=1) zaX (fun _ _ _ _ _ _ us hl=>match us,hl with | [_,_],_=>rfl) fun f cdv A outer s H E hr =>
  (zad (zdG 2 zaX.nd (zrz rfl B.z_list (zac 0))) (zad (znt 3 zaX.nd) (zad (znt 4 zaX.nd) (zad (zaG 5 zaX.nd zae) (zad (zcg PassesOwn.never rfl (zd0 rfl B.z_enumerate (dC c__law_digits hr (zab (zac 1) (zab zae (zab (zdH (DO.de (zbF (zab zae zag))) (zdH zae (zaB zdg rfl B.z_len (by rfl) (zab (zac 0) zag)))) zag))) ln3)) (zcG (n:=2) rfl (zaE (zao 6 zaX.nd) (zaE (zao 7 zaX.nd) zcb))) (zaj (zbD (zbe zf6 (zbR (zac 6) zae) zae (za0 _)) (zad (ztu 2 (zuM 2 (zbR (zac 7) (zaB zdg rfl B.z_len (by rfl) (zab (zac 2) zag)))) (zcG (n:=3) rfl (zaE (zao 8 zaX.nd) (zaE (zao 9 zaX.nd) (zaE (zao 10 zaX.nd) zcb))))) (zad (zpP (zaA (zac 10) (zbR (zac 7) (zaB zdg rfl B.z_len (by rfl) (zab (zac 10) zag)))) (zcG (n:=2) rfl (zaE (zao 11 zaX.nd) (zaE (zao 12 zaX.nd) zcb)))) (zad (ziS 3 (zd9 hr) (zac 8) (zbJ (zab (zac 11) (zab (zac 5) zag)))) (zaj (ziS 4 (zd9 hr) (zac 8) (za9 (zac 5) (zac 12))))))) (zaj (zaG 5 zaX.nd (ztD 4 (za9 (zky rfl rfl B.z_max (zac 4)) (zdH (zac 7) (zac 7))))))))) (zlo 4 (zlo 3 (zaj (zaw (zbJ (zab (zac 3) (zab (zac 4) zag))))))))))))
def zdI:FQ:=zb9 0
  (zbb (za1 (zaP (itF (zlm "Shop" "steps" (vSh 0))) (zaJ 0) tT (b2 ixD (vSh 0) (vC (.int 0))) [none])))
theorem zfy:FnScope ["self"] ["self"] (zak zcK):=by trivial
theorem zfk {C:Addr} (O:ClsOk Γ K mg "Shop" C) (F:DfnM K C "Shop" "step_names" "Shop.step_names" zcK) (B:Bn mg) (cf_Shop:CF Γ K "Shop" zc2):CalM Γ P w K mg base "Shop" "step_names" 1 1 (zdI) :=
 DfnM.cal (k:=0) O F zfy (fun _ _ _ _ _ _ us hl=>match us,hl with | [_],_=>rfl) fun f cdv A outer s H E hr =>
  (zaj (zaw (DO.de (zcs rfl (CompScope.of rfl rfl) (FvOk.of (N':=["row"]) (fv:=[none]) rfl) (za2 (zeV cf_Shop (.tail _ (.head _)) (zac 0))) ⟨fun _ _ _ _ _=>⟨(zao 0 (show (["row"]:List Str).Nodup by decide +kernel)),zaQ,(zaA (zac 0) zae)⟩⟩))))
def ze0 (zaz:FQ):FQ:=zb9 0
  (zbb (cF zaz (zaa (b2 ixD (b2 zbw (zlm "Shop" "step_by_name" (vSh 0)) (vSh 1)) (vC (.int 2))) zal)))
theorem zgR:FnScope ["self","step"] ["self","step"] (zak zds):=by trivial
theorem zgH {zaz:FQ} {C:Addr} (O:ClsOk Γ K mg "Shop" C) (F:DfnM K C "Shop" "ways_of" "Shop.ways_of" zds) (B:Bn mg) (c_fresh:Cal Γ P w K mg base "fresh" 1 8 zaz) (cf_Shop:CF Γ K "Shop" zc2):CalM Γ P w K mg base "Shop" "ways_of" 2 9 (ze0 zaz) :=
 DfnM.cal (k:=8) O F zgR (fun _ _ _ _ _ _ us hl=>match us,hl with | [_,_],_=>rfl) fun f cdv A outer s H E hr =>
  (zaj (zaw (dC c_fresh hr (zab (zaA (zbU (zd9 hr) (zeV cf_Shop (.tail _ (.tail _ (.tail _ (.tail _ (.tail _ (.tail _ (.tail _ (.tail _ (.head _))))))))) (zac 0)) (zac 1)) zae) zag) ln1)))
def zfn (zbd:FQ):FQ:=zb9 2
  (zay (zeR (itF (zce "Shop" "ways_of" zbd (vSh 0) (zaa (vSh 1) zal))) (zbC 2 (zau (zaJ 3) (zau (zaJ 4) zbB))) (sIf (toB (b2 eqA (vSh 3) (vSh 2))) (zbb (vSh 4)) zbX)) (zbb (vC .non)))
theorem zed:FnScope ["shop","step","bench","way_bench","length"] ["shop","step","bench"] (zak ze5):=by trivial
theorem zi2 {zbd:FQ} (F:Dfn K mg "length_on" ze5) (B:Bn mg) (c_Shop_ways_of:CalM Γ P w K mg base "Shop" "ways_of" 2 9 zbd):Cal Γ P w K mg base "length_on" 3 10 (zfn zbd) :=
 F.cal (k:=9) zed (fun _ _ _ _ _ _ us hl=>match us,hl with | [_,_,_],_=>rfl) fun f cdv A outer s H E hr =>
  (zad (zcg PassesOwn.never rfl (za2 (zf4 c_Shop_ways_of hr (by decide) (zac 0) (zab (zac 1) zag) ln1)) (zcG (n:=2) rfl (zaE (zao 3 zed.nd) (zaE (zao 4 zed.nd) zcb))) (zaj (zbD (zbe (zpY (zsa hr)) (zac 3) (zac 2) (za0 _)) (zaj (zaw (zac 4))) zaH))) (zaj (zaw zcv)))
def zhy (zah:FQ) (zaT:FQ):List D->Option (List (Key×D)):=zlJ 3
  (zay (ztY 2) (zay (zeR (itF (zce "Shop" "step_names" zah (vSh 0) zal)) (zaJ 3) (zay (zba 4 (b2 zbw (vSh 1) (vSh 3))) (zeS 2 (vSh 3) (b2 zbv (b2 ixD (vSh 4) (vC (.int 1))) (cF zaT (zaa (vSh 0) (zaa (vSh 3) (zaa (b2 ixD (vSh 4) (vC (.int 0))) zal)))))))) (zmt 2)))
theorem zeE:FnScope ["shop","schedule","ends","step","place"] ["shop","schedule"] (zak zgX):=by trivial
theorem zkG {zah:FQ} {zaT:FQ} (F:Dfn K mg "ends_of" zgX) (B:Bn mg) (c_Shop_step_names:CalM Γ P w K mg base "Shop" "step_names" 1 1 zah) (c_length_on:Cal Γ P w K mg base "length_on" 3 10 zaT):CalD Γ P w K mg base "ends_of" 2 11 (zhy zah zaT) :=
 F.calOD (k:=10) zeE (fun _ _ _ _ _ _ us hl=>match us,hl with | [_,_],_=>rfl) fun f cdv A outer s H E hr =>
  (zad (znt 2 zeE.nd) (zad (zcg PassesOwn.never rfl (za2 (zcQ c_Shop_step_names hr (by decide) (zac 0))) (zao 3 zeE.nd) (zad (zaG 4 zeE.nd (zbU (zd9 hr) (zac 1) (zac 3))) (zaj (ziS 2 (zd9 hr) (zac 3) (za9 (zaA (zac 4) zae) (dC c_length_on hr (zab (zac 0) (zab (zac 3) (zab (zaA (zac 4) zae) zag))) ln3)))))) (zaj (zrr 2))))
def zd2 (zah:FQ):FQ:=zb9 3
  (zay (zba 2 (zce "Shop" "step_names" zah (vSh 0) zal)) (zay (zeR (itF (vSh 2)) (zaJ 3) (sIf (toB (b2 zo3 (vSh 3) (vSh 1))) (zbb (zbW (szF (zaa (vC (.str "step")) (zaa (vSh 3) zal))))) zbX)) (zay (zba 4 (za1 (zaP (itK (vSh 1)) (zaJ 0) (toB (b2 zff (vSh 0) (vSh 1))) (vSh 0) [none,some 2]))) (zay (sIf (toB (b2 gtD (cF zdK (zaa (vSh 4) zal)) (vC (.int 0)))) sNo zbX) (zbb (vC .non))))))
theorem zcN:FnScope ["shop","schedule","names","step","strangers"] ["shop","schedule"] (zak zdO):=by trivial
theorem zhm {zah:FQ} (F:Dfn K mg "broken_step" zdO) (B:Bn mg) (c_Shop_step_names:CalM Γ P w K mg base "Shop" "step_names" 1 1 zah):Cal Γ P w K mg base "broken_step" 2 2 (zd2 zah) :=
 F.cal (k:=1) zcN (fun _ _ _ _ _ _ us hl=>match us,hl with | [_,_],_=>rfl) fun f cdv A outer s H E hr =>
  (zad (zaG 2 zcN.nd (zcQ c_Shop_step_names hr (by decide) (zac 0))) (zad (zcg PassesOwn.never rfl (za2 (zac 2)) (zao 3 zcN.nd) (zaj (zbD (zbe (zrH (zd9 hr)) (zac 3) (zac 1) (by rfl)) (zaj (zaw (zbJ (zab zcD (zab (zac 3) zag))))) zaH))) (zad (zlZ 4 zcN.nd rfl (CompScope.of rfl rfl) (FvOk.of (N':=["name","names"]) (fv:=[none,some 2]) rfl) (znA (zac 1)) ⟨fun _ _ _ _ _=>⟨(zao 0 (show (["name","names"]:List Str).Nodup by decide +kernel)),(zkt (zbe (zkA (zd9 hr)) (zac 0) (zac 1) (by rfl))),(zac 0)⟩⟩) (zad (zbD (zbe zph (zaB zdg rfl B.z_len (by rfl) (zab (zac 4) zag)) zae (za0 _)) (zaj ziR) zaH) (zaj (zaw zcv))))))
def zcE:FQ:=zb9 0
  (zbb (zlm "Shop" "horizon" (vSh 0)))
theorem ze4:FnScope ["self"] ["self"] (zak zcB):=by trivial
theorem zeN {C:Addr} (O:ClsOk Γ K mg "Shop" C) (F:DfnM K C "Shop" "last_moment" "Shop.last_moment" zcB) (B:Bn mg) (cf_Shop:CF Γ K "Shop" zc2):CalM Γ P w K mg base "Shop" "last_moment" 1 1 (zcE) :=
 DfnM.cal (k:=0) O F ze4 (fun _ _ _ _ _ _ us hl=>match us,hl with | [_],_=>rfl) fun f cdv A outer s H E hr =>
  (zaj (zaw (zeV cf_Shop (.tail _ (.tail _ (.tail _ (.tail _ (.tail _ (.tail _ (.head _))))))) (zac 0))))
def zex (zah:FQ) (zaT:FQ) (zaF:FQ):FQ:=zb9 3
  (zay (zeR (itF (zce "Shop" "step_names" zah (vSh 0) zal)) (zaJ 2) (zay (zba 3 (b2 ixD (b2 zbw (vSh 1) (vSh 2)) (vC (.int 1)))) (zay (zba 4 (cF zaT (zaa (vSh 0) (zaa (vSh 2) (zaa (b2 ixD (b2 zbw (vSh 1) (vSh 2)) (vC (.int 0))) zal))))) (sIf (orT (toB (b2 isD (vSh 4) (vC .non))) (orT (toB (b2 ltD (vSh 3) (vC (.int 0)))) (toB (b2 gtD (b2 zbv (vSh 3) (vSh 4)) (zce "Shop" "last_moment" zaF (vSh 0) zal))))) (zbb (zbW (szF (zaa (vC (.str "way")) (zaa (vSh 2) zal))))) zbX)))) (zbb (vC .non)))
theorem zc5:FnScope ["shop","schedule","step","start","length"] ["shop","schedule"] (zak zeg):=by trivial
theorem zhQ {zah:FQ} {zaT:FQ} {zaF:FQ} (F:Dfn K mg "broken_way" zeg) (B:Bn mg) (c_Shop_step_names:CalM Γ P w K mg base "Shop" "step_names" 1 1 zah) (c_length_on:Cal Γ P w K mg base "length_on" 3 10 zaT) (c_Shop_last_moment:CalM Γ P w K mg base "Shop" "last_moment" 1 1 zaF):Cal Γ P w K mg base "broken_way" 2 11 (zex zah zaT zaF) :=
 F.cal (k:=10) zc5 (fun _ _ _ _ _ _ us hl=>match us,hl with | [_,_],_=>rfl) fun f cdv A outer s H E hr =>
  (zad (zcg PassesOwn.never rfl (za2 (zcQ c_Shop_step_names hr (by decide) (zac 0))) (zao 2 zc5.nd) (zad (zaG 3 zc5.nd (zaA (zbU (zd9 hr) (zac 1) (zac 2)) zae)) (zad (zaG 4 zc5.nd (dC c_length_on hr (zab (zac 0) (zab (zac 2) (zab (zaA (zbU (zd9 hr) (zac 1) (zac 2)) zae) zag))) ln3)) (zaj (zbD (DW.dt (zdv (zbe zkB (zac 4) zcv (za0 _)) (zdv (zbe ziZ (zac 3) zae (za0 _)) (zcT (zbe zph (za9 (zac 3) (zac 4)) (zcQ c_Shop_last_moment hr (by decide) (zac 0)) (za0 _)))))) (zaj (zaw (zbJ (zab zcD (zab (zac 2) zag))))) zaH))))) (zaj (zaw zcv)))
def zd4 (zaz:FQ):FQ:=zb9 0
  (zbb (cF zaz (zaa (b2 znC (zlm "Shop" "job_by_step" (vSh 0)) (vSh 1)) zal)))
theorem zhJ:FnScope ["self","step"] ["self","step"] (zak zdU):=by trivial
theorem zhs {zaz:FQ} {C:Addr} (O:ClsOk Γ K mg "Shop" C) (F:DfnM K C "Shop" "job_of" "Shop.job_of" zdU) (B:Bn mg) (c_fresh:Cal Γ P w K mg base "fresh" 1 8 zaz) (cf_Shop:CF Γ K "Shop" zc2):CalM Γ P w K mg base "Shop" "job_of" 2 9 (zd4 zaz) :=
 DfnM.cal (k:=8) O F zhJ (fun _ _ _ _ _ _ us hl=>match us,hl with | [_,_],_=>rfl) fun f cdv A outer s H E hr =>
  (zaj (zaw (dC c_fresh hr (zab (zpb (zd9 hr) (zeV cf_Shop (.tail _ (.tail _ (.tail _ (.tail _ (.tail _ (.tail _ (.tail _ (.tail _ (.tail _ (.tail _ (.head _))))))))))) (zac 0)) (zac 1)) zag) ln1)))
def zey (zah:FQ) (zbo:FQ):FQ:=zb9 2
  (zay (zeR (itF (zce "Shop" "step_names" zah (vSh 0) zal)) (zaJ 3) (zay (zba 4 (zce "Shop" "job_of" zbo (vSh 0) (zaa (vSh 3) zal))) (sIf (zj3 (toB (b2 zfE (vSh 4) (vC .non))) (orT (toB (b2 ltD (b2 ixD (b2 zbw (vSh 1) (vSh 3)) (vC (.int 1))) (b2 ixD (vSh 4) (vC (.int 1))))) (toB (b2 gtD (b2 zbw (vSh 2) (vSh 3)) (b2 ixD (vSh 4) (vC (.int 2))))))) (zbb (zbW (szF (zaa (vC (.str "job")) (zaa (vSh 3) zal))))) zbX))) (zbb (vC .non)))
theorem zdN:FnScope ["shop","schedule","ends","step","job"] ["shop","schedule","ends"] (zak zeh):=by trivial
theorem zhR {zah:FQ} {zbo:FQ} (F:Dfn K mg "broken_job" zeh) (B:Bn mg) (c_Shop_step_names:CalM Γ P w K mg base "Shop" "step_names" 1 1 zah) (c_Shop_job_of:CalM Γ P w K mg base "Shop" "job_of" 2 9 zbo):Cal Γ P w K mg base "broken_job" 3 10 (zey zah zbo) :=
 F.cal (k:=9) zdN (fun _ _ _ _ _ _ us hl=>match us,hl with | [_,_,_],_=>rfl) fun f cdv A outer s H E hr =>
  (zad (zcg PassesOwn.never rfl (za2 (zcQ c_Shop_step_names hr (by decide) (zac 0))) (zao 3 zdN.nd) (zad (zaG 4 zdN.nd (zf4 c_Shop_job_of hr (by decide) (zac 0) (zab (zac 3) zag) ln1)) (zaj (zbD (DW.dt (zjM (zbe zgN (zac 4) zcv (za0 _)) (zhf (DW.dt (zdv (zbe ziZ (zaA (zbU (zd9 hr) (zac 1) (zac 3)) zae) (zaA (zac 4) zae) (za0 _)) (zcT (zbe zph (zbU (zd9 hr) (zac 2) (zac 3)) (zaA (zac 4) zae) (za0 _)))))))) (zaj (zaw (zbJ (zab zcD (zab (zac 3) zag))))) zaH)))) (zaj (zaw zcv)))
def zc4 (zaz:FQ):FQ:=zb9 0
  (zbb (cF zaz (zaa (b2 ixD (b2 zbw (zlm "Shop" "bench_by_name" (vSh 0)) (vSh 1)) (vC (.int 1))) zal)))
theorem zfP:FnScope ["self","bench"] ["self","bench"] (zak zcY):=by trivial
theorem zfI {zaz:FQ} {C:Addr} (O:ClsOk Γ K mg "Shop" C) (F:DfnM K C "Shop" "breaks_of" "Shop.breaks_of" zcY) (B:Bn mg) (c_fresh:Cal Γ P w K mg base "fresh" 1 8 zaz) (cf_Shop:CF Γ K "Shop" zc2):CalM Γ P w K mg base "Shop" "breaks_of" 2 9 (zc4 zaz) :=
 DfnM.cal (k:=8) O F zfP (fun _ _ _ _ _ _ us hl=>match us,hl with | [_,_],_=>rfl) fun f cdv A outer s H E hr =>
  (zaj (zaw (dC c_fresh hr (zab (zaA (zbU (zd9 hr) (zeV cf_Shop (.tail _ (.tail _ (.tail _ (.tail _ (.tail _ (.tail _ (.tail _ (.head _)))))))) (zac 0)) (zac 1)) zae) zag) ln1)))
def zdB (zah:FQ) (zaW:FQ):FQ:=zb9 3
  (zay (zeR (itF (zce "Shop" "step_names" zah (vSh 0) zal)) (zaJ 3) (zay (zba 4 (b2 ixD (b2 zbw (vSh 1) (vSh 3)) (vC (.int 1)))) (zay (zba 5 (zce "Shop" "breaks_of" zaW (vSh 0) (zaa (b2 ixD (b2 zbw (vSh 1) (vSh 3)) (vC (.int 0))) zal))) (sIf (toB (cF zt0 (zaa (za1 (zaP (itF (vSh 5)) (zbC 2 (zau (zaJ 0) (zau (zaJ 1) zbB))) tT (zht (b2 ltD (vSh 2) (vSh 1)) (b2 ltD (vSh 0) (b2 zbw (vSh 3) (vSh 4)))) [none,none,some 4,some 2,some 3])) zal))) (zbb (zbW (szF (zaa (vC (.str "break")) (zaa (vSh 3) zal))))) zbX)))) (zbb (vC .non)))
theorem zcA:FnScope ["shop","schedule","ends","step","start","breaks"] ["shop","schedule","ends"] (zak zdo):=by trivial
theorem zgD {zah:FQ} {zaW:FQ} (F:Dfn K mg "broken_break" zdo) (B:Bn mg) (c_Shop_step_names:CalM Γ P w K mg base "Shop" "step_names" 1 1 zah) (c_Shop_breaks_of:CalM Γ P w K mg base "Shop" "breaks_of" 2 9 zaW):Cal Γ P w K mg base "broken_break" 3 10 (zdB zah zaW) :=
 F.cal (k:=9) zcA (fun _ _ _ _ _ _ us hl=>match us,hl with | [_,_,_],_=>rfl) fun f cdv A outer s H E hr =>
  (zad (zcg PassesOwn.never rfl (za2 (zcQ c_Shop_step_names hr (by decide) (zac 0))) (zao 3 zcA.nd) (zad (zaG 4 zcA.nd (zaA (zbU (zd9 hr) (zac 1) (zac 3)) zae)) (zad (zaG 5 zcA.nd (zf4 c_Shop_breaks_of hr (by decide) (zac 0) (zab (zaA (zbU (zd9 hr) (zac 1) (zac 3)) zae) zag) ln1)) (zaj (zbD (zbh (zaB (ztT rfl) rfl B.z_any (by rfl) (zab (DO.de (zcs rfl (CompScope.of rfl rfl) (FvOk.of (N':=["begin","until","start","ends","step"]) (fv:=[none,none,some 4,some 2,some 3]) rfl) (za2 (zac 5)) ⟨fun _ _ _ _ _=>⟨(zcG (n:=2) rfl (zaE (zao 0 (show (["begin","until","start","ends","step"]:List Str).Nodup by decide +kernel)) (zaE (zao 1 (show (["begin","until","start","ends","step"]:List Str).Nodup by decide +kernel)) zcb))),zaQ,(zd7 (zew ziZ (zac 2) (zac 1) (za0 _)) (zeU (zew ziZ (zac 0) (zbU (zd9 hr) (zac 3) (zac 4)) (za0 _))))⟩⟩)) zag))) (zaj (zaw (zbJ (zab zcD (zab (zac 3) zag))))) zaH))))) (zaj (zaw zcv)))
def zin:FQ:=zb9 3
  (zay (zhG 1 (szF zal)) (zay (zeR (itE (vSh 0)) (zbC 2 (zau (zaJ 2) (zau (zaJ 3) zbB))) (zr1 1 (za1 (zaP (itF (slF (vSh 0) (pS (b2 zbv (vSh 2) (vC (.int 1)))) pN)) (zaJ 0) tT (zbW (szF (zaa (vSh 1) (zaa (vSh 0) zal)))) [none,some 3])))) (zh6 1 (zbb (vSh 1)))))
theorem zdM:FnScope ["things","pairs","place","one"] ["things"] (zak zfQ):=by trivial
theorem zjS (F:Dfn K mg "pairs_of" zfQ) (B:Bn mg)  : Cal Γ P w K mg base "pairs_of" 1 1 (zin) :=
 F.cal (k:=0) zdM (fun _ _ _ _ _ _ us hl=>match us,hl with | [_],_=>rfl) fun f cdv A outer s H E hr =>
  (zad (zdG 1 zdM.nd (zbF zag)) (zad (zcg PassesOwn.never rfl (zd0 rfl B.z_enumerate (zac 0)) (zcG (n:=2) rfl (zaE (zao 2 zdM.nd) (zaE (zao 3 zdM.nd) zcb))) (zaj (znu 1 (DO.de (zcs rfl (CompScope.of rfl rfl) (FvOk.of (N':=["other","one"]) (fv:=[none,some 3]) rfl) (za2 (zcd (zac 0) (zcx (za9 (zac 2) zae)) zcL)) ⟨fun _ _ _ _ _=>⟨(zao 0 (show (["other","one"]:List Str).Nodup by decide +kernel)),zaQ,(zbJ (zab (zac 1) (zab (zac 0) zag)))⟩⟩))))) (zc1 1 (zaj (zaw (zac 1))))))
def zdj:FQ:=zb9 0
  (zbb (b3 znB (zlm "Shop" "setup_by_names" (vSh 0)) (zbW (szF (zaa (vSh 1) (zaa (vSh 2) (zaa (vSh 3) zal))))) (vC (.int 0))))
theorem zgx:FnScope ["self","bench","first","second"] ["self","bench","first","second"] (zak zc9):=by trivial
theorem zf8 {C:Addr} (O:ClsOk Γ K mg "Shop" C) (F:DfnM K C "Shop" "setup_of" "Shop.setup_of" zc9) (B:Bn mg) (cf_Shop:CF Γ K "Shop" zc2):CalM Γ P w K mg base "Shop" "setup_of" 4 1 (zdj) :=
 DfnM.cal (k:=0) O F zgx (fun _ _ _ _ _ _ us hl=>match us,hl with | [_,_,_,_],_=>rfl) fun f cdv A outer s H E hr =>
  (zaj (zaw (zpa (zd9 hr) (zeV cf_Shop (.tail _ (.tail _ (.tail _ (.tail _ (.tail _ (.tail _ (.tail _ (.tail _ (.tail _ (.head _)))))))))) (zac 0)) (zbJ (zab (zac 1) (zab (zac 2) (zab (zac 3) zag)))) zae)))
def zdE:FQ:=zb9 0
  (zbb (b2 ixD (b2 zbw (zlm "Shop" "step_by_name" (vSh 0)) (vSh 1)) (vC (.int 1))))
theorem zgS:FnScope ["self","step"] ["self","step"] (zak zdt):=by trivial
theorem zgI {C:Addr} (O:ClsOk Γ K mg "Shop" C) (F:DfnM K C "Shop" "kind_of" "Shop.kind_of" zdt) (B:Bn mg) (cf_Shop:CF Γ K "Shop" zc2):CalM Γ P w K mg base "Shop" "kind_of" 2 1 (zdE) :=
 DfnM.cal (k:=0) O F zgS (fun _ _ _ _ _ _ us hl=>match us,hl with | [_,_],_=>rfl) fun f cdv A outer s H E hr =>
  (zaj (zaw (zaA (zbU (zd9 hr) (zeV cf_Shop (.tail _ (.tail _ (.tail _ (.tail _ (.tail _ (.tail _ (.tail _ (.tail _ (.head _))))))))) (zac 0)) (zac 1)) zae)))
def zdi (za7:FQ) (zaV:FQ):FQ:=zb9 3
  (zay (zba 5 (vSh 3)) (zay (zba 6 (vSh 4)) (zay (sIf (toB (b2 ltD (b2 ixD (b2 zbw (vSh 1) (vSh 4)) (vC (.int 1))) (b2 ixD (b2 zbw (vSh 1) (vSh 3)) (vC (.int 1))))) (zay (zba 5 (vSh 4)) (zba 6 (vSh 3))) zbX) (zay (zba 7 (zce "Shop" "setup_of" za7 (vSh 0) (zaa (b2 ixD (b2 zbw (vSh 1) (vSh 3)) (vC (.int 0))) (zaa (zce "Shop" "kind_of" zaV (vSh 0) (zaa (vSh 5) zal)) (zaa (zce "Shop" "kind_of" zaV (vSh 0) (zaa (vSh 6) zal)) zal))))) (zbb (b2 ltD (b2 ixD (b2 zbw (vSh 1) (vSh 6)) (vC (.int 1))) (b2 zbv (b2 zbw (vSh 2) (vSh 5)) (vSh 7))))))))
theorem zbH:FnScope ["shop","schedule","ends","one","other","earlier","later","setup"] ["shop","schedule","ends","one","other"] (zak zc8):=by trivial
theorem zf7 {za7:FQ} {zaV:FQ} (F:Dfn K mg "are_too_close" zc8) (B:Bn mg) (c_Shop_setup_of:CalM Γ P w K mg base "Shop" "setup_of" 4 1 za7) (c_Shop_kind_of:CalM Γ P w K mg base "Shop" "kind_of" 2 1 zaV):Cal Γ P w K mg base "are_too_close" 5 2 (zdi za7 zaV) :=
 F.cal (k:=1) zbH (fun _ _ _ _ _ _ us hl=>match us,hl with | [_,_,_,_,_],_=>rfl) fun f cdv A outer s H E hr =>
  (zad (zaG 5 zbH.nd (zac 3)) (zad (zaG 6 zbH.nd (zac 4)) (zad (zbD (zbe ziZ (zaA (zbU (zd9 hr) (zac 1) (zac 4)) zae) (zaA (zbU (zd9 hr) (zac 1) (zac 3)) zae) (za0 _)) (zad (zaG 5 zbH.nd (zac 4)) (zaj (zaG 6 zbH.nd (zac 3)))) zaH) (zad (zaG 7 zbH.nd (zf4 c_Shop_setup_of hr (by decide) (zac 0) (zab (zaA (zbU (zd9 hr) (zac 1) (zac 3)) zae) (zab (zf4 c_Shop_kind_of hr (by decide) (zac 0) (zab (zac 5) zag) ln1) (zab (zf4 c_Shop_kind_of hr (by decide) (zac 0) (zab (zac 6) zag) ln1) zag))) ln3)) (zaj (zaw (zew ziZ (zaA (zbU (zd9 hr) (zac 1) (zac 6)) zae) (za9 (zbU (zd9 hr) (zac 2) (zac 5)) (zac 7)) (za0 _))))))))
def zdC (zah:FQ) (zco:FQ) (zaU:FQ):FQ:=zb9 2
  (zay (zeR (itF (cF zco (zaa (zce "Shop" "step_names" zah (vSh 0) zal) zal))) (zbC 2 (zau (zaJ 3) (zau (zaJ 4) zbB))) (sIf (zj3 (toB (b2 eqA (b2 ixD (b2 zbw (vSh 1) (vSh 3)) (vC (.int 0))) (b2 ixD (b2 zbw (vSh 1) (vSh 4)) (vC (.int 0))))) (toB (cF zaU (zaa (vSh 0) (zaa (vSh 1) (zaa (vSh 2) (zaa (vSh 3) (zaa (vSh 4) zal)))))))) (zbb (zbW (szF (zaa (vC (.str "bench")) (zaa (vSh 3) (zaa (vSh 4) zal)))))) zbX)) (zbb (vC .non)))
theorem zc7:FnScope ["shop","schedule","ends","one","other"] ["shop","schedule","ends"] (zak zdp):=by trivial
theorem zgE {zah:FQ} {zco:FQ} {zaU:FQ} (F:Dfn K mg "broken_bench" zdp) (B:Bn mg) (c_Shop_step_names:CalM Γ P w K mg base "Shop" "step_names" 1 1 zah) (c_pairs_of:Cal Γ P w K mg base "pairs_of" 1 1 zco) (c_are_too_close:Cal Γ P w K mg base "are_too_close" 5 2 zaU):Cal Γ P w K mg base "broken_bench" 3 3 (zdC zah zco zaU) :=
 F.cal (k:=2) zc7 (fun _ _ _ _ _ _ us hl=>match us,hl with | [_,_,_],_=>rfl) fun f cdv A outer s H E hr =>
  (zad (zcg PassesOwn.never rfl (za2 (dC c_pairs_of hr (zab (zcQ c_Shop_step_names hr (by decide) (zac 0)) zag) ln1)) (zcG (n:=2) rfl (zaE (zao 3 zc7.nd) (zaE (zao 4 zc7.nd) zcb))) (zaj (zbD (DW.dt (zjM (zbe (zpY (zsa hr)) (zaA (zbU (zd9 hr) (zac 1) (zac 3)) zae) (zaA (zbU (zd9 hr) (zac 1) (zac 4)) zae) (za0 _)) (zhf (zbh (dC c_are_too_close hr (zab (zac 0) (zab (zac 1) (zab (zac 2) (zab (zac 3) (zab (zac 4) zag))))) ln5))))) (zaj (zaw (zbJ (zab zcD (zab (zac 3) (zab (zac 4) zag)))))) zaH))) (zaj (zaw zcv)))
def zdk (zaz:FQ):FQ:=zb9 0
  (zbb (cF zaz (zaa (zlm "Shop" "jobs" (vSh 0)) zal)))
theorem zgy:FnScope ["self"] ["self"] (zak zda):=by trivial
theorem zf9 {zaz:FQ} {C:Addr} (O:ClsOk Γ K mg "Shop" C) (F:DfnM K C "Shop" "job_rows" "Shop.job_rows" zda) (B:Bn mg) (c_fresh:Cal Γ P w K mg base "fresh" 1 8 zaz) (cf_Shop:CF Γ K "Shop" zc2):CalM Γ P w K mg base "Shop" "job_rows" 1 9 (zdk zaz) :=
 DfnM.cal (k:=8) O F zgy (fun _ _ _ _ _ _ us hl=>match us,hl with | [_],_=>rfl) fun f cdv A outer s H E hr =>
  (zaj (zaw (dC c_fresh hr (zab (zeV cf_Shop (.tail _ (.tail _ (.head _))) (zac 0)) zag) ln1)))
def zdD (zbf:FQ):FQ:=zb9 5
  (zay (zeR (itF (zce "Shop" "job_rows" zbf (vSh 0) zal)) (zaJ 3) sNo) (zbb (vC .non)))
theorem zef:FnScope ["shop","schedule","ends","job","one","other","told_way","other_way"] ["shop","schedule","ends"] (zak zdq):=by trivial
theorem zgF {zbf:FQ} (F:Dfn K mg "broken_apart" zdq) (B:Bn mg) (c_Shop_job_rows:CalM Γ P w K mg base "Shop" "job_rows" 1 9 zbf):Cal Γ P w K mg base "broken_apart" 3 10 (zdD zbf) :=
 F.cal (k:=9) zef (fun _ _ _ _ _ _ us hl=>match us,hl with | [_,_,_],_=>rfl) fun f cdv A outer s H E hr =>
  (zad (zcg PassesOwn.never rfl (za2 (zcQ c_Shop_job_rows hr (by decide) (zac 0))) (zao 3 zef.nd) (zaj ziR)) (zaj (zaw zcv)))
def zc3 (zaz:FQ):FQ:=zb9 0
  (zbb (cF zaz (zaa (zlm "Shop" "links" (vSh 0)) zal)))
theorem zfO:FnScope ["self"] ["self"] (zak zcX):=by trivial
theorem zfH {zaz:FQ} {C:Addr} (O:ClsOk Γ K mg "Shop" C) (F:DfnM K C "Shop" "link_rows" "Shop.link_rows" zcX) (B:Bn mg) (c_fresh:Cal Γ P w K mg base "fresh" 1 8 zaz) (cf_Shop:CF Γ K "Shop" zc2):CalM Γ P w K mg base "Shop" "link_rows" 1 9 (zc3 zaz) :=
 DfnM.cal (k:=8) O F zfO (fun _ _ _ _ _ _ us hl=>match us,hl with | [_],_=>rfl) fun f cdv A outer s H E hr =>
  (zaj (zaw (dC c_fresh hr (zab (zeV cf_Shop (.tail _ (.tail _ (.tail _ (.tail _ (.head _))))) (zac 0)) zag) ln1)))
def zd3 (za8:FQ):FQ:=zb9 3
  (zay (zeR (itF (zce "Shop" "link_rows" za8 (vSh 0) zal)) (zbC 3 (zau (zaJ 3) (zau (zaJ 4) (zau (zaJ 5) zbB)))) sNo) (zbb (vC .non)))
theorem zcO:FnScope ["shop","schedule","ends","one","other","gap"] ["shop","schedule","ends"] (zak zdP):=by trivial
theorem zhn {za8:FQ} (F:Dfn K mg "broken_link" zdP) (B:Bn mg) (c_Shop_link_rows:CalM Γ P w K mg base "Shop" "link_rows" 1 9 za8):Cal Γ P w K mg base "broken_link" 3 10 (zd3 za8) :=
 F.cal (k:=9) zcO (fun _ _ _ _ _ _ us hl=>match us,hl with | [_,_,_],_=>rfl) fun f cdv A outer s H E hr =>
  (zad (zcg PassesOwn.never rfl (za2 (zcQ c_Shop_link_rows hr (by decide) (zac 0))) (zcG (n:=3) rfl (zaE (zao 3 zcO.nd) (zaE (zao 4 zcO.nd) (zaE (zao 5 zcO.nd) zcb)))) (zaj ziR)) (zaj (zaw zcv)))
def zcM (zaz:FQ):FQ:=zb9 0
  (zbb (cF zaz (zaa (zlm "Shop" "stocks" (vSh 0)) zal)))
theorem zfx:FnScope ["self"] ["self"] (zak zcJ):=by trivial
theorem zfj {zaz:FQ} {C:Addr} (O:ClsOk Γ K mg "Shop" C) (F:DfnM K C "Shop" "stock_rows" "Shop.stock_rows" zcJ) (B:Bn mg) (c_fresh:Cal Γ P w K mg base "fresh" 1 8 zaz) (cf_Shop:CF Γ K "Shop" zc2):CalM Γ P w K mg base "Shop" "stock_rows" 1 9 (zcM zaz) :=
 DfnM.cal (k:=8) O F zfx (fun _ _ _ _ _ _ us hl=>match us,hl with | [_],_=>rfl) fun f cdv A outer s H E hr =>
  (zaj (zaw (dC c_fresh hr (zab (zeV cf_Shop (.tail _ (.tail _ (.tail _ (.tail _ (.tail _ (.head _)))))) (zac 0)) zag) ln1)))
def zdA (zaY:FQ):FQ:=zb9 3
  (zay (zeR (itF (zce "Shop" "stock_rows" zaY (vSh 0) zal)) (zaJ 3) (zay sNo (zay sNo sNo))) (zbb (vC .non)))
theorem zee:FnScope ["shop","schedule","ends","stock","moments","moment"] ["shop","schedule","ends"] (zak zdn):=by trivial
theorem zgC {zaY:FQ} (F:Dfn K mg "broken_stock" zdn) (B:Bn mg) (c_Shop_stock_rows:CalM Γ P w K mg base "Shop" "stock_rows" 1 9 zaY):Cal Γ P w K mg base "broken_stock" 3 10 (zdA zaY) :=
 F.cal (k:=9) zee (fun _ _ _ _ _ _ us hl=>match us,hl with | [_,_,_],_=>rfl) fun f cdv A outer s H E hr =>
  (zad (zcg PassesOwn.never rfl (za2 (zcQ c_Shop_stock_rows hr (by decide) (zac 0))) (zao 3 zee.nd) (zad ziR (zad ziR (zaj ziR)))) (zaj (zaw zcv)))
def zdz (zbx:FQ) (zbK:FQ) (zaN:List D->Option (List (Key×D))) (zbL:FQ) (zbl:FQ) (zbm:FQ) (zbn:FQ) (zby:FQ) (zbk:FQ):FQ:=zb9 2
  (zay (zba 2 (cF zbx (zaa (vSh 0) (zaa (vSh 1) zal)))) (zay (sIf (toB (b2 isD (vSh 2) (vC .non))) (zba 2 (cF zbK (zaa (vSh 0) (zaa (vSh 1) zal)))) zbX) (zay (sIf (toB (b2 zfE (vSh 2) (vC .non))) (zbb (vSh 2)) zbX) (zay (zba 3 (cF (dkF zaN) (zaa (vSh 0) (zaa (vSh 1) zal)))) (zay (zba 2 (cF zbL (zaa (vSh 0) (zaa (vSh 1) (zaa (vSh 3) zal))))) (zay (sIf (toB (b2 isD (vSh 2) (vC .non))) (zba 2 (cF zbl (zaa (vSh 0) (zaa (vSh 1) (zaa (vSh 3) zal))))) zbX) (zay (sIf (toB (b2 isD (vSh 2) (vC .non))) (zba 2 (cF zbm (zaa (vSh 0) (zaa (vSh 1) (zaa (vSh 3) zal))))) zbX) (zay (sIf (toB (b2 isD (vSh 2) (vC .non))) (zba 2 (cF zbn (zaa (vSh 0) (zaa (vSh 1) (zaa (vSh 3) zal))))) zbX) (zay (sIf (toB (b2 isD (vSh 2) (vC .non))) (zba 2 (cF zby (zaa (vSh 0) (zaa (vSh 1) (zaa (vSh 3) zal))))) zbX) (zay (sIf (toB (b2 isD (vSh 2) (vC .non))) (zba 2 (cF zbk (zaa (vSh 0) (zaa (vSh 1) (zaa (vSh 3) zal))))) zbX) (zbb (vSh 2))))))))))))
theorem za5:FnScope ["shop","schedule","broken","ends"] ["shop","schedule"] (zak zdm):=by trivial
theorem zgB {zbx:FQ} {zbK:FQ} {zaN:List D->Option (List (Key×D))} {zbL:FQ} {zbl:FQ} {zbm:FQ} {zbn:FQ} {zby:FQ} {zbk:FQ} (F:Dfn K mg "first_broken" zdm) (B:Bn mg) (c_broken_step:Cal Γ P w K mg base "broken_step" 2 2 zbx) (c_broken_way:Cal Γ P w K mg base "broken_way" 2 11 zbK) (c_ends_of:CalD Γ P w K mg base "ends_of" 2 11 zaN) (c_broken_job:Cal Γ P w K mg base "broken_job" 3 10 zbL) (c_broken_break:Cal Γ P w K mg base "broken_break" 3 10 zbl) (c_broken_bench:Cal Γ P w K mg base "broken_bench" 3 3 zbm) (c_broken_apart:Cal Γ P w K mg base "broken_apart" 3 10 zbn) (c_broken_link:Cal Γ P w K mg base "broken_link" 3 10 zby) (c_broken_stock:Cal Γ P w K mg base "broken_stock" 3 10 zbk):Cal Γ P w K mg base "first_broken" 2 12 (zdz zbx zbK zaN zbL zbl zbm zbn zby zbk) :=
 F.cal (k:=11) za5 (fun _ _ _ _ _ _ us hl=>match us,hl with | [_,_],_=>rfl) fun f cdv A outer s H E hr =>
  (zad (zaG 2 za5.nd (dC c_broken_step hr (zab (zac 0) (zab (zac 1) zag)) ln2)) (zad (zbD (zbe zkB (zac 2) zcv (za0 _)) (zaj (zaG 2 za5.nd (dC c_broken_way hr (zab (zac 0) (zab (zac 1) zag)) ln2))) zaH) (zad (zbD (zbe zgN (zac 2) zcv (za0 _)) (zaj (zaw (zac 2))) zaH) (zad (zaG 3 za5.nd (zij (c_ends_of).cal hr (by decide) rfl (zab (zac 0) (zab (zac 1) zag)) ln2)) (zad (zaG 2 za5.nd (dC c_broken_job hr (zab (zac 0) (zab (zac 1) (zab (zac 3) zag))) ln3)) (zad (zbD (zbe zkB (zac 2) zcv (za0 _)) (zaj (zaG 2 za5.nd (dC c_broken_break hr (zab (zac 0) (zab (zac 1) (zab (zac 3) zag))) ln3))) zaH) (zad (zbD (zbe zkB (zac 2) zcv (za0 _)) (zaj (zaG 2 za5.nd (dC c_broken_bench hr (zab (zac 0) (zab (zac 1) (zab (zac 3) zag))) ln3))) zaH) (zad (zbD (zbe zkB (zac 2) zcv (za0 _)) (zaj (zaG 2 za5.nd (dC c_broken_apart hr (zab (zac 0) (zab (zac 1) (zab (zac 3) zag))) ln3))) zaH) (zad (zbD (zbe zkB (zac 2) zcv (za0 _)) (zaj (zaG 2 za5.nd (dC c_broken_link hr (zab (zac 0) (zab (zac 1) (zab (zac 3) zag))) ln3))) zaH) (zad (zbD (zbe zkB (zac 2) zcv (za0 _)) (zaj (zaG 2 za5.nd (dC c_broken_stock hr (zab (zac 0) (zab (zac 1) (zab (zac 3) zag))) ln3))) zaH) (zaj (zaw (zac 2)))))))))))))
def zfo (zaN:List D->Option (List (Key×D))):FQ:=zb9 0
  (zbb (b1 zhM (cF (dkF zaN) (zaa (vSh 0) (zaa (vSh 1) zal)))))
theorem zjn:FnScope ["shop","schedule"] ["shop","schedule"] (zak ze6):=by trivial
theorem zi3 {zaN:List D->Option (List (Key×D))} (F:Dfn K mg "length_of" ze6) (B:Bn mg) (c_ends_of:CalD Γ P w K mg base "ends_of" 2 11 zaN):Cal Γ P w K mg base "length_of" 2 12 (zfo zaN) :=
 F.cal (k:=11) zjn (fun _ _ _ _ _ _ us hl=>match us,hl with | [_,_],_=>rfl) fun f cdv A outer s H E hr =>
  (zaj (zaw (zky rfl rfl B.z_max (zij (c_ends_of).cal hr (by decide) rfl (zab (zac 0) (zab (zac 1) zag)) ln2))))
def zeA:FQ:=zb9 0
  (zbb (zht (cF zgz (zaa (vSh 0) (zaa (vC (.ty "int")) zal))) (zr6 (cF zgz (zaa (vSh 0) (zaa (vC (.ty "bool")) zal))))))
theorem ziy:FnScope ["_law_found"] ["_law_found"] (zak zem):=by trivial
theorem zhW (F:Dfn K mg "_law_whole" zem) (B:Bn mg)  : Cal Γ P w K mg base "_law_whole" 1 1 (zeA) :=
 F.cal (k:=0) ziy (fun _ _ _ _ _ _ us hl=>match us,hl with | [_],_=>rfl) fun f cdv A outer s H E hr =>
  (zaj (zaw (zd7 (zaB zeW rfl B.z_isinstance (by rfl) (zab (zac 0) (zab (zhO rfl B.z_int (by rfl)) zag))) (zeU (zpT (zaB zeW rfl B.z_isinstance (by rfl) (zab (zac 0) (zab (zhO rfl B.z_bool (by rfl)) zag))))))))
def ztV (zar:FQ) (zb2:List D->Option (List D)) (zcj:FQ) (zbz:FQ) (zaN:List D->Option (List (Key×D))) (zbc:FQ) (zbi:FQ) (za3:FQ):FQ:=zb9 8
  (zay (zba 1 (b2 ixD (za1 (szF (zaa (vC (.int 400)) (zaa (b2 zr5 (vC (.int 10)) (vC (.int 6))) (zaa (b2 zbv (vC (.int 900)) (b2 zb6 (cF zar (zaa (vSh 0) (zaa (vC (.int 20)) zal))) (vC (.int 99000)))) zal))))) (b2 zb6 (cF zar (zaa (vSh 0) (zaa (vC (.int 21)) zal))) (vC (.int 3))))) (zay (zhG 2 (cFO zb2 (zaa (vSh 0) (zaa (b2 zbv (vC (.int 1)) (b2 zb6 (cF zar (zaa (vSh 0) (zaa (vC (.int 0)) zal))) (vC (.int 7)))) (zaa (vSh 1) (zaa (vC (.int 9)) zal)))))) (zay (zkh 2 0 (za1 (zaP (itF (b2 ixD (vSh 2) (vC (.int 0)))) (zbC 2 (zau (zaJ 0) (zau (zaJ 1) zbB))) tT (zbW (szF (zaa (vSh 0) (zaa (za1 (szF zal)) zal)))) [none,none]))) (zh6 2 (zay (zba 2 (b2 zbv (slF (vSh 2) pN (pS (vC (.int 2)))) (za1 (szF (zaa (za1 (szF zal)) (zaa (za1 (szF zal)) (zaa (za1 (szF zal)) (zaa (za1 (szF zal)) (zaa (vSh 1) zal))))))))) (zay (zba 3 (cF zcj (zaa (vSh 2) zal))) (zay (zeR (itF (b2 zbv (za1 (szF (zaa (cF zar (zaa (vSh 0) (zaa (vC (.int 22)) zal))) zal))) (slF (vSh 0) (pS (vC (.int 23))) (pS (vC (.int 62)))))) (zaJ 4) (zay (zoo (zbC 2 (zau (zaJ 5) (zau (zaJ 6) zbB))) (cF zbz (zaa (b2 ixD (vSh 2) (vC (.int 1))) (zaa (vSh 4) zal)))) (zay (zba 7 (cF zec (zaa (vSh 5) zal))) (zay (sIf (toB (b2 eqD (b2 zb6 (vSh 4) (vC (.int 2))) (vC (.int 1)))) (zba 7 (b1 zr4 (cF zid (zaa (vSh 5) zal)))) zbX) (zay (zba 5 (cF zgn (zaa (za1 (zaP (itF (vSh 7)) (zaJ 0) tT (zbW (szF (zaa (vSh 0) (zaa (b2 zbw (vSh 1) (vSh 0)) zal)))) [none,some 5])) zal))) (zay (zsv 8 zaN (zaa (vSh 3) (zaa (vSh 5) zal))) (zay (sIf (zrM 8 (orT (toB (b2 zfE (cF zbc (zaa (vSh 3) (zaa (vSh 5) zal))) (vC .non))) (orT (zcZ (toB (cF zgz (zaa (vSh 8) (zaa (vC (.ty "dict")) zal))))) (toB (b2 znK (vSh 8) (vSh 6)))))) (zbb (vC (.bl false))) zbX) (zay (sIf (zrK 8 (orT (zcZ (toB (cF zmZ (zaa (za1 (zaP (itK (vSh 8)) (zaJ 0) tT (cF za3 (zaa (b2 zbw (vSh 1) (vSh 0)) zal)) [none,some 8])) zal)))) (zcZ (toB (cF za3 (zaa (cF zbi (zaa (vSh 3) (zaa (vSh 5) zal))) zal)))))) (zbb (vC (.bl false))) zbX) (zay (zsx 8) (sIf (orT (toB (b2 neA (cF zbi (zaa (vSh 3) (zaa (vSh 5) zal))) (b1 zhM (vSh 6)))) (toB (b2 znK (cF (dkF zaN) (zaa (vSh 3) (zaa (vSh 5) zal))) (vSh 6)))) (zbb (vC (.bl false))) zbX)))))))))) (zbb (vC (.bl true))))))))))
theorem zd5:FnScope ["_law_script","_law_horizon","_law_lists_here","_law_shop_here","_law_cell_here","_law_plan","_law_ends","_law_order","_law_found"] ["_law_script"] (zak zgT):=by trivial
theorem zrO {zar:FQ} {zb2:List D->Option (List D)} {zcj:FQ} {zbz:FQ} {zaN:List D->Option (List (Key×D))} {zbc:FQ} {zbi:FQ} {za3:FQ} (B:Bn mg) (c__law_cell:Cal Γ P w K mg base "_law_cell" 2 1 zar) (c__law_lists:CalO Γ P w K mg base "_law_lists" 4 3 zb2) (c__law_shop:Cal Γ P w K mg base "_law_shop" 1 11 zcj) (c__law_drawn:Cal Γ P w K mg base "_law_drawn" 2 2 zbz) (c_ends_of:CalD Γ P w K mg base "ends_of" 2 11 zaN) (c_first_broken:Cal Γ P w K mg base "first_broken" 2 12 zbc) (c_length_of:Cal Γ P w K mg base "length_of" 2 12 zbi) (c__law_whole:Cal Γ P w K mg base "_law_whole" 1 1 za3) (f:Addr) (cdv:Value) (A:Around) (outer:List Env) (s:Shared) (H:Hp) (E:XK) (hr:Room 12 (A.deeper (envOfC "law" (zak zgT) s.heap.objs.size f cdv))):DSs Γ (zj6 CX0 P w K mg base ["_law_script","_law_horizon","_law_lists_here","_law_shop_here","_law_cell_here","_law_plan","_law_ends","_law_order","_law_found"] "law" (zak zgT) f cdv A outer s H E).nox (zbu zgT)
  (zay (zba 1 (b2 ixD (za1 (szF (zaa (vC (.int 400)) (zaa (b2 zr5 (vC (.int 10)) (vC (.int 6))) (zaa (b2 zbv (vC (.int 900)) (b2 zb6 (cF zar (zaa (vSh 0) (zaa (vC (.int 20)) zal))) (vC (.int 99000)))) zal))))) (b2 zb6 (cF zar (zaa (vSh 0) (zaa (vC (.int 21)) zal))) (vC (.int 3))))) (zay (zhG 2 (cFO zb2 (zaa (vSh 0) (zaa (b2 zbv (vC (.int 1)) (b2 zb6 (cF zar (zaa (vSh 0) (zaa (vC (.int 0)) zal))) (vC (.int 7)))) (zaa (vSh 1) (zaa (vC (.int 9)) zal)))))) (zay (zkh 2 0 (za1 (zaP (itF (b2 ixD (vSh 2) (vC (.int 0)))) (zbC 2 (zau (zaJ 0) (zau (zaJ 1) zbB))) tT (zbW (szF (zaa (vSh 0) (zaa (za1 (szF zal)) zal)))) [none,none]))) (zh6 2 (zay (zba 2 (b2 zbv (slF (vSh 2) pN (pS (vC (.int 2)))) (za1 (szF (zaa (za1 (szF zal)) (zaa (za1 (szF zal)) (zaa (za1 (szF zal)) (zaa (za1 (szF zal)) (zaa (vSh 1) zal))))))))) (zay (zba 3 (cF zcj (zaa (vSh 2) zal))) (zay (zeR (itF (b2 zbv (za1 (szF (zaa (cF zar (zaa (vSh 0) (zaa (vC (.int 22)) zal))) zal))) (slF (vSh 0) (pS (vC (.int 23))) (pS (vC (.int 62)))))) (zaJ 4) (zay (zoo (zbC 2 (zau (zaJ 5) (zau (zaJ 6) zbB))) (cF zbz (zaa (b2 ixD (vSh 2) (vC (.int 1))) (zaa (vSh 4) zal)))) (zay (zba 7 (cF zec (zaa (vSh 5) zal))) (zay (sIf (toB (b2 eqD (b2 zb6 (vSh 4) (vC (.int 2))) (vC (.int 1)))) (zba 7 (b1 zr4 (cF zid (zaa (vSh 5) zal)))) zbX) (zay (zba 5 (cF zgn (zaa (za1 (zaP (itF (vSh 7)) (zaJ 0) tT (zbW (szF (zaa (vSh 0) (zaa (b2 zbw (vSh 1) (vSh 0)) zal)))) [none,some 5])) zal))) (zay (zsv 8 zaN (zaa (vSh 3) (zaa (vSh 5) zal))) (zay (sIf (zrM 8 (orT (toB (b2 zfE (cF zbc (zaa (vSh 3) (zaa (vSh 5) zal))) (vC .non))) (orT (zcZ (toB (cF zgz (zaa (vSh 8) (zaa (vC (.ty "dict")) zal))))) (toB (b2 znK (vSh 8) (vSh 6)))))) (zbb (vC (.bl false))) zbX) (zay (sIf (zrK 8 (orT (zcZ (toB (cF zmZ (zaa (za1 (zaP (itK (vSh 8)) (zaJ 0) tT (cF za3 (zaa (b2 zbw (vSh 1) (vSh 0)) zal)) [none,some 8])) zal)))) (zcZ (toB (cF za3 (zaa (cF zbi (zaa (vSh 3) (zaa (vSh 5) zal))) zal)))))) (zbb (vC (.bl false))) zbX) (zay (zsx 8) (sIf (orT (toB (b2 neA (cF zbi (zaa (vSh 3) (zaa (vSh 5) zal))) (b1 zhM (vSh 6)))) (toB (b2 znK (cF (dkF zaN) (zaa (vSh 3) (zaa (vSh 5) zal))) (vSh 6)))) (zbb (vC (.bl false))) zbX)))))))))) (zbb (vC (.bl true)))))))))) :=
  (zad (zaG 1 zd5.nd (zaA (DO.de (zbF (zab zae (zab (ztC zae zae) (zab (za9 zae (zbR (dC c__law_cell hr (zab (zac 0) (zab zae zag)) ln2) zae)) zag))))) (zbR (dC c__law_cell hr (zab (zac 0) (zab zae zag)) ln2) zae))) (zad (zdG 2 zd5.nd (zty c__law_lists hr (by decide) rfl (zab (zac 0) (zab (za9 zae (zbR (dC c__law_cell hr (zab (zac 0) (zab zae zag)) ln2) zae)) (zab (zac 1) (zab zae zag)))) ln4)) (zad (zrs 2 0 (DO.de (zcs rfl (CompScope.of rfl rfl) (FvOk.of (N':=["_law_name_here","_law_breaks"]) (fv:=[none,none]) rfl) (za2 (zaA (zac 2) zae)) ⟨fun _ _ _ _ _=>⟨(zcG (n:=2) rfl (zaE (zao 0 (show (["_law_name_here","_law_breaks"]:List Str).Nodup by decide +kernel)) (zaE (zao 1 (show (["_law_name_here","_law_breaks"]:List Str).Nodup by decide +kernel)) zcb))),zaQ,(zbJ (zab (zac 0) (zab (DO.de (zbF zag)) zag)))⟩⟩))) (zc1 2 (zad (zaG 2 zd5.nd (za9 (zcd (zac 2) zcL (zcx zae)) (DO.de (zbF (zab (DO.de (zbF zag)) (zab (DO.de (zbF zag)) (zab (DO.de (zbF zag)) (zab (DO.de (zbF zag)) (zab (zac 1) zag))))))))) (zad (zaG 3 zd5.nd (dC c__law_shop hr (zab (zac 2) zag) ln1)) (zad (zcg PassesOwn.never rfl (za2 (za9 (DO.de (zbF (zab (dC c__law_cell hr (zab (zac 0) (zab zae zag)) ln2) zag))) (zcd (zac 0) (zcx zae) (zcx zae)))) (zao 4 zd5.nd) (zad (zpP (dC c__law_drawn hr (zab (zaA (zac 2) zae) (zab (zac 4) zag)) ln2) (zcG (n:=2) rfl (zaE (zao 5 zd5.nd) (zaE (zao 6 zd5.nd) zcb)))) (zad (zaG 7 zd5.nd (zaB (znY rfl) rfl B.z_sorted (by rfl) (zab (zac 5) zag))) (zad (zbD (zbe zf6 (zbR (zac 4) zae) zae (za0 _)) (zaj (zaG 7 zd5.nd (ztB (zcU (zoe rfl) rfl B.z_list (by rfl) (zab (zac 5) zag))))) zaH) (zad (zaG 5 zd5.nd (zcU (zog rfl (zd9 hr)) rfl B.z_dict (by rfl) (zab (DO.de (zcs rfl (CompScope.of rfl rfl) (FvOk.of (N':=["_law_name_here","_law_plan"]) (fv:=[none,some 5]) rfl) (za2 (zac 7)) ⟨fun _ _ _ _ _=>⟨(zao 0 (show (["_law_name_here","_law_plan"]:List Str).Nodup by decide +kernel)),zaQ,(zbJ (zab (zac 0) (zab (zbU (zd9 hr) (zac 1) (zac 0)) zag)))⟩⟩)) zag))) (zad (ztw 8 zd5.nd c_ends_of hr (by decide) rfl (zab (zac 3) (zab (zac 5) zag)) ln2) (zad (zbD (zts 8 (DW.dt (zdv (zbe zgN (dC c_first_broken hr (zab (zac 3) (zab (zac 5) zag)) ln2) zcv (za0 _)) (zdv (zbt (zbh (zaB zeW rfl B.z_isinstance (by rfl) (zab (zac 8) (zab (zhO rfl B.z_dict (by rfl)) zag))))) (zcT (zbe (zpZ (zd9 hr)) (zac 8) (zac 6) (za0 _))))))) (zaj (zaw zfi)) zaH) (zad (zbD (ztr 8 (DW.dt (zdv (zbt (zbh (zaB (zrT rfl) rfl B.z_min (by rfl) (zab (DO.de (zcs rfl (CompScope.of rfl rfl) (FvOk.of (N':=["_law_name_here","_law_found"]) (fv:=[none,some 8]) rfl) (znA (zac 8)) ⟨fun _ _ _ _ _=>⟨(zao 0 (show (["_law_name_here","_law_found"]:List Str).Nodup by decide +kernel)),zaQ,(dC c__law_whole hr (zab (zbU (zd9 hr) (zac 1) (zac 0)) zag) ln1)⟩⟩)) zag)))) (zcT (zbt (zbh (dC c__law_whole hr (zab (dC c_length_of hr (zab (zac 3) (zab (zac 5) zag)) ln2) zag) ln1))))))) (zaj (zaw zfi)) zaH) (zad (ztx 8) (zaj (zbD (DW.dt (zdv (zbe (zlv (zsa hr)) (dC c_length_of hr (zab (zac 3) (zab (zac 5) zag)) ln2) (zky rfl rfl B.z_max (zac 6)) (za0 _)) (zcT (zbe (zpZ (zd9 hr)) (zij (c_ends_of).cal hr (by decide) rfl (zab (zac 3) (zab (zac 5) zag)) ln2) (zac 6) (za0 _))))) (zaj (zaw zfi)) zaH))))))))))) (zaj (zaw zfi)))))))))
end Law
end
section
namespace Law
open PySem L2 PySem.Spec PyProof.Rows
def zar:FQ:=zhE
def zai:FQ:=zfM
def zbO:FQ:=zgt
def zas:FQ:=zhC
def zbA:FQ:=zeZ zai zbO zas
def zb1:FQ:=zgs zai zas
def zck:FQ:=zhD zai zas
def zbP:FQ:=zfL zai
def zb3:FQ:=zgv zai
def zbN:FQ:=zfK zai zas
def zb2:List D->Option (List D):=zgu zar zbA zb1 zck zbP zb3 zbN
def zcp:FQ:=zgc
def zaI:FQ:=zfp zcp
def zaC:FQ:=zgd
def zcq:FQ:=zge zaI zaC
def zaq:FQ:=zhx
def zb0:FQ:=zgr zcq zaq
def za6:FQ:=zj4
def zcr:FQ:=zgf zb0 za6 zaC
def zam:FQ:=zez
def zbM:FQ:=zfJ zcr zaq zam
def zb5:FQ:=zfq za6
def zc6:FQ:=zje zaI zb5 zaC
def zcy:FQ:=zio zc6 zaq zam
def zcF:FQ:=zhw za6 zaC zcy
def zch:FQ:=zhz zcF zaq zam
def zcz:FQ:=ziq zaq zam
def zbZ:FQ:=zgq zaq zam
def zci:FQ:=zhA zaq zam
def zbY:FQ:=zgp zaq zam
def zbg:FQ:=zd8 zaI zbM zch zcz zbZ zci zbY
def zdx:Nat->FQ
 | 0=>fun _=>none
 | n+1=>zdy (zdx n)
def zaz:FQ:=zdx 8
def zbq:FQ:=zeC zbg zaz
def zcj:FQ:=zhB zbq
def zbz:FQ:=zeB zai
def zah:FQ:=zdI
def zbd:FQ:=ze0 zaz
def zaT:FQ:=zfn zbd
def zaN:List D->Option (List (Key×D)):=zhy zah zaT
def zbx:FQ:=zd2 zah
def zaF:FQ:=zcE
def zbK:FQ:=zex zah zaT zaF
def zbo:FQ:=zd4 zaz
def zbL:FQ:=zey zah zbo
def zaW:FQ:=zc4 zaz
def zbl:FQ:=zdB zah zaW
def zco:FQ:=zin
def za7:FQ:=zdj
def zaV:FQ:=zdE
def zaU:FQ:=zdi za7 zaV
def zbm:FQ:=zdC zah zco zaU
def zbf:FQ:=zdk zaz
def zbn:FQ:=zdD zbf
def za8:FQ:=zc3 zaz
def zby:FQ:=zd3 za8
def zaY:FQ:=zcM zaz
def zbk:FQ:=zdA zaY
def zbc:FQ:=zdz zbx zbK zaN zbL zbl zbm zbn zby zbk
def zbi:FQ:=zfo zaN
def za3:FQ:=zeA
def zrY:FQ:=ztV zar zb2 zcj zbz zaN zbc zbi za3
end Law
end
section
namespace Law
open PySem L2
theorem i2:zj5 "int" "int"=some true:=rfl
theorem i3:zj5 "int" "bool"=some false:=rfl
theorem k1:zj5 "list" "list"=some true:=rfl
theorem k2:zj5 "tuple" "list"=some false:=rfl
theorem k3:zj5 "tuple" "tuple"=some true:=rfl
theorem k4:zj5 "str" "list"=some false:=rfl
theorem k5:zj5 "str" "tuple"=some false:=rfl
theorem k6:zj5 "int" "list"=some false:=rfl
theorem k7:zj5 "int" "tuple"=some false:=rfl
theorem k8:zj5 "bool" "list"=some false:=rfl
theorem k9:zj5 "bool" "tuple"=some false:=rfl
theorem k10:zj5 "NoneType" "list"=some false:=rfl
theorem k11:zj5 "NoneType" "tuple"=some false:=rfl
theorem sz1:(1<=sizeLine)=True:=by simp [sizeLine]
theorem sz2:(1+1<=sizeLine)=True:=by simp [sizeLine]
theorem sz3:(1+1+1<=sizeLine)=True:=by simp [sizeLine]
theorem sz4:(1+1+1+1<=sizeLine)=True:=by simp [sizeLine]
theorem sz5:(1+1+1+1+1<=sizeLine)=True:=by simp [sizeLine]
theorem sz6:(1+1+1+1+1+1<=sizeLine)=True:=by simp [sizeLine]
theorem sz7:(1+1+1+1+1+1+1<=sizeLine)=True:=by simp [sizeLine]
section
variable {x0 x1 x2 x3 x4:D} {r:List D}
theorem zfl {α:Type} (l:List α) (n:Nat):atI l (n:Int)=l[n]?:=by
 unfold atI ixN
 rw [qU (by omega)]
 by_cases h:n < l.length
 ·rw [qU (by omega)];simp
 ·rw [qV (by omega)];simp;omega
theorem zma:ixD (.tup (x0::r)) (.int 0)=some x0:=zfl _ 0
theorem zpL:ixD (.tup (x0::x1::r)) (.int 1)=some x1:=zfl _ 1
theorem zvg:ixD (.tup (x0::x1::x2::r)) (.int 2)=some x2:=zfl _ 2
theorem zvN:ixD (.tup (x0::x1::x2::x3::r)) (.int 3)=some x3:=zfl _ 3
end
theorem zrG {fe:FE} {r:zaZ} {f:D->D}:∀ {xs:List D} {a:Option Slot},(∀ x∈xs,fe (oS x::r)=some (f x))->zfF (zaJ 0) tT fe xs (a::r)=some (xs.map f)
 | [],_,_=>rfl
 | x::xs,a,h=>by
  have h1:=h x qh
  have ih:=zrG (xs:=xs) (a:=oS x) fun y hy=>h y (qi _ hy)
  simp only [zfF,zaJ,List.set_cons_zero,qc,tT,if_true,h1,ih,qf,qp]
theorem zpX {fe:FE} {ft:FT} {r:zaZ} {f:D->D} {p:D->Bool}:∀ {xs:List D} {a:Option Slot},(∀ x∈xs,ft (oS x::r)=some (p x)/\(p x=true->fe (oS x::r)=some (f x)))->zfF (zaJ 0) ft fe xs (a::r)=some ((xs.filter p).map f)
 | [],_,_=>rfl
 | x::xs,a,h=>by
  have h1:=h x qh
  have ih:=zpX (xs:=xs) (a:=oS x) fun y hy=>h y (qi _ hy)
  simp only [zfF,zaJ,List.set_cons_zero,qc,h1.1,ih,List.filter_cons]
  cases e:p x
  ·simp
  ·simp [h1.2 e]
theorem znW:∀ {l:List D},(∀ x∈l,x=.bl true)->∃ bs:List Bool,zrR l=some bs/\bs.all id=true
 | [],_=>⟨[],rfl,rfl⟩
 | x::r,h=>by
  obtain ⟨bs,h1,h2⟩:=znW (l:=r) fun y hy=>h y (qi _ hy)
  have hx:=h x qh
  subst hx
  exact ⟨true::bs,by simp [zrR,h1],by simpa using h2⟩
theorem zeL {fi:FA} {fe:FE} {fv:List (Option Nat)} {ρ r:zaZ} {a:Option Slot} {xs:List D} (h1:fi ρ=some xs) (h2:xs.length<=sizeLine) (h3:zet fv ρ=a::r) (h:∀ x∈xs,fe (oS x::r)=some (.bl true)) :
  cF zkK (zaa (za1 (zaP fi (zaJ 0) tT fe fv)) zal) ρ=some (.bl true):=by
 have c:=zrG (a:=a) (f:=fun _=>.bl true) h
 obtain ⟨bs,e1,e2⟩:=znW (l:=xs.map fun _=>D.bl true) (by simp)
 simp only [cF,zaa,zal,za1,zaP,h1,qc,qU h2,h3,c,qf,zkK,e1]
 simpa using e2
theorem zb7 {fi:FA} {fe:FE} {fv:List (Option Nat)} {ρ r:zaZ} {a:Option Slot} {xs:List D} {f:D->D} (h1:fi ρ=some xs) (h2:xs.length<=sizeLine) (h3:zet fv ρ=a::r) (h:∀ x∈xs,fe (oS x::r)=some (f x)) :
  za1 (zaP fi (zaJ 0) tT fe fv) ρ=some (.lst (xs.map f)):=by
 simp only [za1,zaP,h1,qc,qU h2,h3,zrG (a:=a) h,qf]
theorem zc0 {gg:FG} {body:FS} {xs:List D} {ρ:zaZ} (I:Nat->zaZ->Prop) (h0:I 0 ρ) (hs:∀ i x ρ,xs[i]?=some x->I i ρ->∃ ρ1 ρ2,gg x ρ=some ρ1/\body ρ1=some (.nx,ρ2)/\I (i+1) ρ2) :
  ∃ ρ',zlX gg body xs ρ=some (.nx,ρ')/\I xs.length ρ':=by
 have key:∀ (ys:List D) (k:Nat) (ρ:zaZ),xs.drop k=ys->I k ρ->∃ ρ',zlX gg body ys ρ=some (.nx,ρ')/\I (k+ys.length) ρ':=by
  intro ys
  induction ys with
  | nil=>intro k ρ _ hk;exact ⟨ρ,rfl,hk⟩
  | cons y r ih =>
   intro k ρ hd hk
   have hy:xs[k]?=some y:=by
    have:(xs.drop k)[0]?=some y:=by rw [hd];rfl
    simpa using this
   obtain ⟨ρ1,ρ2,h1,h2,h3⟩:=hs k y ρ hy hk
   have hd':xs.drop (k+1)=r:=by rw [← List.drop_drop,hd];rfl
   obtain ⟨ρ',h4,h5⟩:=ih (k+1) ρ2 hd' h3
   refine ⟨ρ',?_,by rw [qj];rwa [show k+1+r.length=k+(r.length+1) by omega] at h5⟩
   simp only [zlX,h1,qc,h2,h4]
 obtain ⟨ρ',h1,h2⟩:=key xs 0 ρ rfl h0
 exact ⟨ρ',h1,by rwa [Nat.zero_add] at h2⟩
theorem ztR:(2:Int) ^ 62=4611686018427387904:=by decide +kernel
theorem zqn {i j:Int} (h:0<=i/\i<=1000000/\0<=j/\j<=1000000):zqo [.int i,.int j]=some ((List.range (j - i).toNat).map fun k:Nat=>D.int (i+k)):=by
 unfold zqo
 rw [ztR]
 exact qU ⟨by omega,by omega,by omega,by omega⟩
theorem zgZ {j:Int} (h:0<=j/\j<=1000000):zk1 [.int j]=some ((List.range j.toNat).map fun i:Nat=>D.int (0+i)):=by
 unfold zk1
 rw [ztR]
 exact qU ⟨by omega,by omega⟩
theorem zig {g:List D->Option (List D)} {fr:FA} {ρ:zaZ} {ds r:List D} (h1:fr ρ=some ds) (h2:g ds=some r):itR g fr ρ=some r:=by
 unfold itR;rw [h1];exact h2
theorem zax {g:D->D->Option D} {fa fb:FE} {ρ:zaZ} {x y z:D} (h1:fa ρ=some x) (h2:fb ρ=some y) (h3:g x y=some z):b2 g fa fb ρ=some z:=by
 unfold b2;rw [h1,qc,h2,qc];exact h3
theorem zaL {g:FQ} {fr:FA} {ρ:zaZ} {ds:List D} {z:D} (h1:fr ρ=some ds) (h2:g ds=some z):cF g fr ρ=some z:=by
 unfold cF;rw [h1];exact h2
theorem zaf {f:FE} {fr:FA} {ρ:zaZ} {d:D} {ds:List D} (h1:f ρ=some d) (h2:fr ρ=some ds):zaa f fr ρ=some (d::ds):=by
 unfold zaa;rw [h1,qc,h2];rfl
theorem zat {ρ:zaZ}:zal ρ=some []:=rfl
theorem zpz {n:Nat} {g:FS} {ds:List D} {d:D} {ρ':zaZ} (h:g (ds.map (fun d=>some (Slot.sh d))++List.replicate n none)=some (.rt d,ρ')):zb9 n g ds=some d:=by
 unfold zb9;rw [h];rfl
theorem zaR {n:Nat} {g:FS} {ds:List D} {d:D} (ρ:zaZ) {ρ':zaZ} (e:ds.map (fun d=>some (Slot.sh d))++List.replicate n none=ρ) (h:g ρ=some (.rt d,ρ')):zb9 n g ds=some d:=by
 subst e;exact zpz h
theorem zaS {f:FE} {ρ:zaZ} {d:D} (h:f ρ=some d):zbb f ρ=some (.rt d,ρ):=by unfold zbb;rw [h];rfl
theorem za4 {f:FE} {ρ:zaZ} {b:Bool} (h:f ρ=some (.bl b)):toB f ρ=some b:=by unfold toB;rw [h];rfl
theorem zhc {A:FE} {X E:FS} {ρ:zaZ} (hA:A ρ=some (.bl true)):zay (sIf (zcZ (toB A)) X zbX) E ρ=E ρ:=by
 simp only [zay,sIf,zcZ,za4 hA,qf,qc,Bool.not_true,Bool.false_eq_true,if_false,zbX]
theorem zjH {A B:FE} {X E:FS} {ρ:zaZ} (hA:A ρ=some (.bl true)) (hB:B ρ=some (.bl true)):zay (sIf (orT (zcZ (toB A)) (zcZ (toB B))) X zbX) E ρ=E ρ:=by
 simp only [zay,sIf,orT,zcZ,za4 hA,za4 hB,qf,qc,Bool.not_true,Bool.false_eq_true,if_false,zbX]
theorem zaD {i:Nat} {f:FE} {g:FS} {ρ:zaZ} {d:D} (h:f ρ=some d):zay (zba i f) g ρ=g (ρ.set i (oS d)):=by
 simp only [zay,zba,h,qf,qc]
theorem zmc (i:Int):zcp [.int i]=some (.bl true):=by
 simp only [zcp,zgc,zb9,zbb,zht,zr6,cF,zaa,zal,vSh,vC,zgz,tyD,qp,qM,qr,qP,List.replicate,qd,qc,qf,Bool.not_false,i2,i3]
theorem zeD (i a b:Int) (h:a<=i/\i<=b):zaI [.int i,.int a,.int b]=some (.bl true):=by
 simp only [zaI,zfp,zmc,zb9,zbb,zht,cF,zaa,zal,vSh,chD,leD,qp,qM,qr,qP,List.replicate,qd,qe,qc,qf,qQ h.1,qQ h.2]
theorem ziH (l:List D) (a b:Int) (h:a<=l.length/\(l.length:Int)<=b):zaq [.lst l,.int a,.int b]=some (.bl true):=by
 simp only [zaq,zhx,zb9,zbb,zht,cF,zaa,zal,vSh,vC,chD,zgz,tyD,zdK,leD,qp,qM,qr,qP,List.replicate,qd,qe,qc,qf,k1,qQ h.1,qQ h.2]
theorem zkU (l:List D) (n:Int) (h:(l.length:Int)=n):zaC [.tup l,.int n]=some (.bl true):=by
 simp only [zaC,zgd,zb9,zbb,zht,cF,zaa,zal,vSh,vC,b2,zgz,tyD,zdK,eqD,eqS,qp,qM,qr,qP,List.replicate,qd,qe,qc,qf,k3,qQ h]
section
variable {a b c d e:D}
theorem zt3:zaC [.tup [a,b],.int 2]=some (.bl true):=zkU _ _ rfl
theorem zvr:zaC [.tup [a,b,c],.int 3]=some (.bl true):=zkU _ _ rfl
end
def dIv (p:Int×Int):D:=.tup [.int p.1,.int p.2]
theorem zpm (p:Int×Int) (h:Int) (h1:0<=p.1) (h2:p.1 < p.2) (h3:p.2<=h):zcq [dIv p,.int h]=some (.bl true):=by
 simp only [zcq,zge,dIv,zb9,zay,sIf,zbb,zbX,orT,zcZ,toB,cF,zaa,zal,vSh,vC,b2,ltD,zma,zpL,qp,qM,qr,qP,List.replicate,qd,qe,qc,qf,if_false,Bool.not_true,Bool.false_eq_true,zt3,zeD p.1 0 h ⟨h1,by omega⟩,zeD p.2 0 h ⟨by omega,h3⟩,qQ h2]
def az (c:Nat):Bool:=!ltS ⟨#[c]⟩ "a" && !ltS "z" ⟨#[c]⟩
theorem zuS {c:Nat} (h:az c=true):c<=122:=by
 have z:("z":Str)=⟨#[122]⟩:=by decide +kernel
 unfold az ltS at h
 rw [z] at h
 simp only [Bool.and_eq_true,Bool.not_eq_true',decide_eq_false_iff_not] at h
 have h2:=h.2
 rcases Nat.lt_or_ge 122 c with q | q
 ·exact absurd (show ([122]:List Nat) < [c] from List.Lex.rel q) h2
 ·exact q
theorem zpg (c:Nat) (r:zaZ):chD leD leD (vC (.str "a")) (vSh 0) (vC (.str "z")) (oS (.str ⟨#[c]⟩)::r)=some (.bl (az c)):=by
 simp only [chD,vC,vSh,qd,qc,leD,az]
 cases ltS ⟨#[c]⟩ "a" <;> simp
def zbG (x:Str):Bool:=decide (1<=x.length) && decide (x.length<=8) && x.cps.toList.all az
theorem zmS {x:Str} (h:zbG x=true):1<=x.length/\x.length<=8:=by
 unfold zbG at h
 simp only [Bool.and_eq_true,decide_eq_true_eq] at h
 exact h.1
theorem zla {x:Str} (h:zbG x=true):∀ c∈x.cps.toList,az c=true:=by
 unfold zbG at h
 simp only [Bool.and_eq_true,List.all_eq_true] at h
 exact h.2
theorem ziE {x:Str} (h:zbG x=true):za6 [.str x]=some (.bl true):=by
 obtain ⟨h1,h2⟩:=zmS h
 have hz:x.length<=sizeLine:=by unfold sizeLine;omega
 have hl:(x.cps.toList.map fun c=>D.str ⟨#[c]⟩).length<=sizeLine:=by simpa [Str.length] using hz
 have e1:decide ((1:Int)<=(x.length:Nat))=true:=qQ (by omega)
 have e2:decide (((x.length:Nat):Int)<=8)=true:=qQ (by omega)
 have ha:=zeL (fi:=itS (vSh 0)) (fe:=chD leD leD (vC (.str "a")) (vSh 0) (vC (.str "z"))) (fv:=[none]) (ρ:=[oS (.str x)]) (r:=[]) (a:=none) (xs:=x.cps.toList.map fun c=>D.str ⟨#[c]⟩)
  (by simp [itS,vSh,zmq]) hl rfl (fun y hy=>by
   obtain ⟨c,hc,rfl⟩:=List.mem_map.mp hy
   rw [zpg,zla h c hc])
 refine zpz (ρ':=[oS (.str x)]) ((zjH ?_ ?_).trans (zaS ha))
 ·rfl
 ·show chD leD leD (vC (.int 1)) (cF zdK (zaa (vSh 0) zal)) (vC (.int 8)) [oS (.str x)]=_
  simp only [cF,zaa,zal,vSh,vC,chD,zdK,leD,qd,qc,qf,qU hz,e1,e2]
theorem zir {x:Str} (h:zbG x=true):PyData.strOk x=true:=by
 unfold PyData.strOk
 rw [Array.all_eq_true']
 intro c hc
 have:=zuS (zla h c (by simpa using hc))
 exact qQ (by omega)
theorem zg2:∀ (ns:List Str),zlL (ns.map D.str)=some (ns.map PyData.str)
 | []=>by simp [zlL]
 | x::r=>by simp [zlL,pdD,zg2 r]
theorem zeI:∀ {ns:List Str},(∀ x∈ns,zbG x=true)->PyData.canLayAll0 (ns.map PyData.str)=true
 | [],_=>by simp [PyData.canLayAll0]
 | x::r,h=>by
  simp only [qp,PyData.canLayAll0,PyData.canLay0,zir (h x qh),Bool.true_and]
  exact zeI fun y hy=>h y (qi _ hy)
theorem zjc (x:Str):∀ (ns:List Str),((ns.map PyData.str).any fun z=>PyData.eqv z (.str x))=decide (x∈ns)
 | []=>by simp
 | y::r=>by
  have ih:=zjc x r
  rw [qp,List.any_cons,ih]
  simp only [PyData.eqv]
  by_cases e:y=x
  ·subst e;simp
  ·have:x≠y:=fun z=>e z.symm
   simp [e,this]
theorem zrk {x:Str} {ns:List Str} (hx:zbG x=true) (hn:∀ y∈ns,zbG y=true):ztm (.str x) (.lst (ns.map D.str))=some (.bl (decide (x∈ns))):=by
 have sh:SeqAt.shaped (.str x)=true:=by simp [SeqAt.shaped,PyData.canLay0,zir hx,PyData.depth]
 simp only [ztm,inX,pdD,zg2,qf,qc,sh,zeI hn,and_self,if_true,zjc]
theorem zmM {x:Str} {ns:List Str} (hx:x∈ns) (hn:∀ y∈ns,zbG y=true):zb5 [.str x,.lst (ns.map D.str)]=some (.bl true):=by
 simp only [zb5,zfq,zb9,zbb,zht,cF,zaa,zal,vSh,b2,qp,qM,qr,qP,List.replicate,qd,qe,qc,qf,ziE (hn x hx),zrk (hn x hx) hn,qQ hx]
theorem zpc {κ:Type} [DecidableEq κ] {l:List κ} (h:l.Nodup):ST.dd l=l:=by
 have key:∀ (l a:List κ),(a++l).Nodup->l.foldl (fun a k=>if k∈a then a else a++[k]) a=a++l:=by
  intro l
  induction l with
  | nil=>intro a _;simp
  | cons x r ih =>
   intro a hn
   have hx:x∉a:=by
    intro z
    rw [List.nodup_append] at hn
    exact hn.2.2 x z x qh rfl
   rw [List.foldl_cons,qV hx,ih (a++[x]) (by simpa using hn)]
   simp
 simpa [ST.dd] using key l [] (by simpa using h)
theorem zf2:∀ (ns:List Str),zhN (ns.map D.str)=some (ns.map Sum.inr)
 | []=>by simp [zhN]
 | x::r=>by simp [zhN,zo4,zf2 r]
theorem ze1 {ns:List Str} (h:ns.Nodup) (hl:ns.length<=300):zam [.lst (ns.map D.str)]=some (.bl true):=by
 have hd:(ns.map (Sum.inr:Str->Key)).Nodup:=List.Pairwise.map _ (fun a b hab z=>hab (Sum.inr.inj z)) h
 simp only [zam,zez,zb9,zbb,cF,zaa,zal,vSh,b1,b2,zdK,eqD,eqS,qp,qM,qr,qP,List.replicate,qd,qc,qf,ziI,qg,qU hl,zf2,zpc hd]
 simp
end Law
end
section
namespace Law
open PySem L2
structure BenchT where
 nm:Str
 br:List (Int×Int)
structure StepT where
 nm:Str
 kd:Str
 ws:List (Str×Int)
structure JobT where
 nm:Str
 ea:Int
 du:Int
 od:Bool
 ms:List Str
structure SetT where
 b:Str
 p:Str
 q:Str
 n:Int
structure LinkT where
 a:Str
 b:Str
 g:Int
structure StockT where
 nm:Str
 lo:Int
 hi:Int
 tk:List (Str×Int)
 pt:List (Str×Int)
def dW (w:Str×Int):D:=.tup [.str w.1,.int w.2]
def zaK (b:BenchT):D:=.tup [.str b.nm,.lst (b.br.map dIv)]
def zaO (s:StepT):D:=.tup [.str s.nm,.str s.kd,.lst (s.ws.map dW)]
def zpV (j:JobT):D:=.tup [.str j.nm,.int j.ea,.int j.du,.bl j.od,.lst (j.ms.map D.str)]
def zjO (u:SetT):D:=.tup [.str u.b,.str u.p,.str u.q,.int u.n]
def zhP (l:LinkT):D:=.tup [.str l.a,.str l.b,.int l.g]
def zhi (k:StockT):D:=.tup [.str k.nm,.int k.lo,.int k.hi,.lst (k.tk.map dW),.lst (k.pt.map dW)]
structure GoodB (h:Int) (b:BenchT):Prop where
 nm:zbG b.nm=true
 len:b.br.length<=10
 iv:∀ p∈b.br,0<=p.1/\p.1 < p.2/\p.2<=h
 gap:∀ (i:Nat) p q,b.br[i]?=some p->b.br[i+1]?=some q->p.2 < q.1
structure GoodS (bn:List Str) (h:Int) (s:StepT):Prop where
 nm:zbG s.nm=true
 kd:zbG s.kd=true
 l1:1<=s.ws.length
 l4:s.ws.length<=4
 ws:∀ w∈s.ws,w.1∈bn/\1<=w.2/\w.2<=h
 nd:(s.ws.map (·.1)).Nodup
structure GoodJ (sn:List Str) (h:Int) (j:JobT):Prop where
 nm:zbG j.nm=true
 ea:0<=j.ea/\j.ea<=h
 du:0<=j.du/\j.du<=h
 l1:1<=j.ms.length
 ln:j.ms.length<=sn.length
 ms:∀ m∈j.ms,m∈sn
structure GoodU (bn:List Str) (h:Int) (u:SetT):Prop where
 b:u.b∈bn
 p:zbG u.p=true
 q:zbG u.q=true
 n:1<=u.n/\u.n<=h
structure GoodL (sn:List Str) (h:Int) (l:LinkT):Prop where
 a:l.a∈sn
 b:l.b∈sn
 ne:l.a≠l.b
 g:0<=l.g/\l.g<=h
structure GoodA (sn:List Str) (am:List (Str×Int)):Prop where
 ln:am.length<=sn.length
 ws:∀ w∈am,w.1∈sn/\1<=w.2/\w.2<=1000000
 nd:(am.map (·.1)).Nodup
structure GoodK (sn:List Str) (k:StockT):Prop where
 nm:zbG k.nm=true
 lo:0<=k.lo/\k.lo<=k.hi
 hi:0<=k.hi/\k.hi<=1000000
 tk:GoodA sn k.tk
 pt:GoodA sn k.pt
structure Good (bs:List BenchT) (ss:List StepT) (js:List JobT) (us:List SetT) (ls:List LinkT) (ks:List StockT) (hz:Int):Prop where
 hh:1<=hz/\hz<=1000000
 bl:1<=bs.length/\bs.length<=8
 b:∀ x∈bs,GoodB hz x
 bn:(bs.map (·.nm)).Nodup
 sl:1<=ss.length/\ss.length<=40
 s:∀ x∈ss,GoodS (bs.map (·.nm)) hz x
 sn:(ss.map (·.nm)).Nodup
 jl:js.length<=40
 j:∀ x∈js,GoodJ (ss.map (·.nm)) hz x
 jn:(js.map (·.nm)).Nodup
 jm:(js.flatMap (·.ms)).Nodup
 ul:us.length<=100
 u:∀ x∈us,GoodU (bs.map (·.nm)) hz x
 un:(us.map fun u=>[u.b,u.p,u.q]).Nodup
 ll:ls.length<=100
 l:∀ x∈ls,GoodL (ss.map (·.nm)) hz x
 ln:(ls.map fun l=>[l.a,l.b]).Nodup
 kl:ks.length<=6
 k:∀ x∈ks,GoodK (ss.map (·.nm)) x
 kn:(ks.map (·.nm)).Nodup
theorem ixL (l:List D) (n:Nat):ixD (.lst l) (.int (n:Int))=l[n]?:=zfl l n
theorem szN {n k:Nat} (h:n<=k) (hk:k<=1000):n<=sizeLine:=by unfold sizeLine;omega
section
variable {h:Int} {bn sn:List Str}
theorem ztn {br:List (Int×Int)} (len:br.length<=10) (gap:∀ (i:Nat) p q,br[i]?=some p->br[i+1]?=some q->p.2 < q.1) :
  cF zkK (zaa (za1 (zaP (itR zqo (zaa (vC (.int 1)) (zaa (cF zdK (zaa (vSh 0) zal)) zal))) (zaJ 0) tT (b2 ltD (b2 ixD (b2 ixD (vSh 1) (b2 zpt (vSh 0) (vC (.int 1)))) (vC (.int 1))) (b2 ixD (b2 ixD (vSh 1) (vSh 0)) (vC (.int 0)))) [none,some 0])) zal) [oS (.lst (br.map dIv)),oS (.int h)]=some (.bl true):=by
 have e0:itR zqo (zaa (vC (.int 1)) (zaa (cF zdK (zaa (vSh 0) zal)) zal)) [oS (.lst (br.map dIv)),oS (.int h)]=some ((List.range (((br.map dIv).length:Int) - 1).toNat).map fun k:Nat=>D.int (1+k)):=by
  exact zig rfl (zqn (i:=1) (j:=((br.map dIv).length:Nat)) (by rw [qg];omega))
 refine zeL (r:=[oS (.lst (br.map dIv))]) (a:=none) e0 ?_ rfl fun x hx=>?_
 ·simp only [qg,List.length_range]
  exact szN (k:=10) (by omega) (by decide)
 ·obtain ⟨k,hk,rfl⟩:=List.mem_map.mp hx
  rw [List.mem_range,qg] at hk
  have hk1:k < br.length:=by omega
  have hk2:k+1 < br.length:=by omega
  have e1:br[k]?=some br[k]:=by simp [hk1]
  have e2:br[k+1]?=some br[k+1]:=by simp [hk2]
  have g:=gap k _ _ e1 e2
  have a1:ixD (.lst (br.map dIv)) (.int (1+(k:Int) - 1))=some (dIv br[k]):=by
   have:(1+(k:Int) - 1)=((k:Nat):Int):=by omega
   rw [this,ixL,qm,e1];rfl
  have a2:ixD (.lst (br.map dIv)) (.int (1+(k:Int)))=some (dIv br[k+1]):=by
   have:(1+(k:Int))=((k+1:Nat):Int):=by omega
   rw [this,ixL,qm,e2];rfl
  simp only [vSh,vC,b2,ltD,zpt,qd,qe,qc,a1,a2]
  simp only [dIv,zma,zpL,qc,qQ g]
theorem znU {br:List (Int×Int)} (len:br.length<=10) (iv:∀ p∈br,0<=p.1/\p.1 < p.2/\p.2<=h) (gap:∀ (i:Nat) p q,br[i]?=some p->br[i+1]?=some q->p.2 < q.1) :
  zb0 [.lst (br.map dIv),.int h]=some (.bl true):=by
 refine zaR [oS (.lst (br.map dIv)),oS (.int h)] rfl ((zjH ?_ (zeL (r:=[oS (.int h)]) (a:=none) (xs:=br.map dIv) rfl (by rw [qg];exact szN len (by decide)) rfl fun x hx=>?_)).trans (zaS (ztn len gap)))
 ·exact ziH _ 0 10 ⟨by omega,by rw [qg];omega⟩
 ·obtain ⟨p,hp,rfl⟩:=List.mem_map.mp hx
  obtain ⟨h1,h2,h3⟩:=iv p hp
  exact zpm p h h1 h2 h3
theorem zpo {b:BenchT} (g:GoodB h b):zcr [zaK b,.int h]=some (.bl true):=by
 simp only [zcr,zgf,zaK,zb9,zbb,zht,cF,zaa,zal,vSh,vC,b2,zma,zpL,qp,qM,qr,qP,List.replicate,qd,qe,qc,qf,zt3,ziE g.nm,znU g.len g.iv g.gap]
theorem zeG {α:Type} {f:α->D} {nm:α->Str} {xs:List α} {i:Nat} {ρ:zaZ} {fv:List (Option Nat)} (hf:∀ x,∃ r,f x=.tup (.str (nm x)::r)) (h1:vSh i ρ=some (.lst (xs.map f))) (h2:xs.length<=sizeLine) (h3:zet fv ρ=[none]) :
  za1 (zaP (itF (vSh i)) (zaJ 0) tT (b2 ixD (vSh 0) (vC (.int 0))) fv) ρ=some (.lst ((xs.map nm).map D.str)):=by
 have hc:=zb7 (fi:=itF (vSh i)) (fe:=b2 ixD (vSh 0) (vC (.int 0))) (fv:=fv) (ρ:=ρ) (r:=[]) (a:=none) (xs:=xs.map f) (f:=fun d=>match d with | .tup (x::_)=>x | _=>.non) (by unfold itF;rw [h1];rfl) (by rw [qg];exact h2) h3 (fun x hx=>by
  obtain ⟨y,_,rfl⟩:=List.mem_map.mp hx
  obtain ⟨r,e⟩:=hf y
  simp only [b2,vSh,vC,qd,qc,e,zma])
 rw [hc]
 congr 2
 rw [qq,qq]
 refine List.map_congr_left fun x _=>?_
 obtain ⟨r,e⟩:=hf x
 simp [e]
theorem zl7 {bs:List BenchT} (l1:1<=bs.length) (l8:bs.length<=8) (g:∀ x∈bs,GoodB h x) (nd:(bs.map (·.nm)).Nodup):zbM [.lst (bs.map zaK),.int h]=some (.bl true):=by
 refine zaR [oS (.lst (bs.map zaK)),oS (.int h)] rfl ((zjH ?_ (zeL (r:=[oS (.int h)]) (a:=none) (xs:=bs.map zaK) rfl (by rw [qg];exact szN l8 (by decide)) rfl fun x hx=>?_)).trans (zaS ?_))
 ·exact ziH _ 1 8 ⟨by rw [qg];omega,by rw [qg];omega⟩
 ·obtain ⟨p,hp,rfl⟩:=List.mem_map.mp hx
  exact zpo (g p hp)
 ·have:=zeG (i:=0) (fv:=[none]) (ρ:=[oS (.lst (bs.map zaK)),oS (.int h)]) (f:=zaK) (nm:=(·.nm)) (xs:=bs) (fun x=>⟨_,rfl⟩) rfl (szN l8 (by decide)) rfl
  simp only [cF,zaa,zal,this,qc,qf]
  exact ze1 nd (by rw [qg];omega)
theorem zsf {w:Str×Int} (hb:∀ y∈bn,zbG y=true) (g:w.1∈bn/\1<=w.2/\w.2<=h):zc6 [dW w,.lst (bn.map D.str),.int h]=some (.bl true):=by
 simp only [zc6,zje,dW,zb9,zbb,zht,cF,zaa,zal,vSh,vC,b2,zma,zpL,qp,qM,qr,qP,List.replicate,qd,qe,qc,qf,zt3,zmM g.1 hb,zeD w.2 1 h g.2]
theorem zp3 {ws:List (Str×Int)} (hb:∀ y∈bn,zbG y=true) (l1:1<=ws.length) (l4:ws.length<=4) (g:∀ w∈ws,w.1∈bn/\1<=w.2/\w.2<=h) (nd:(ws.map (·.1)).Nodup):zcy [.lst (ws.map dW),.lst (bn.map D.str),.int h]=some (.bl true):=by
 refine zaR [oS (.lst (ws.map dW)),oS (.lst (bn.map D.str)),oS (.int h)] rfl ((zjH ?_ (zeL (r:=[oS (.lst (bn.map D.str)),oS (.int h)]) (a:=none) (xs:=ws.map dW) rfl (by rw [qg];exact szN l4 (by decide)) rfl fun x hx=>?_)).trans (zaS ?_))
 ·exact ziH _ 1 4 ⟨by rw [qg];omega,by rw [qg];omega⟩
 ·obtain ⟨p,hp,rfl⟩:=List.mem_map.mp hx
  exact zsf hb (g p hp)
 ·have:=zeG (i:=0) (fv:=[none]) (ρ:=[oS (.lst (ws.map dW)),oS (.lst (bn.map D.str)),oS (.int h)]) (f:=dW) (nm:=(·.1)) (xs:=ws) (fun x=>⟨_,rfl⟩) rfl (szN l4 (by decide)) rfl
  simp only [cF,zaa,zal,this,qc,qf]
  exact ze1 nd (by rw [qg];omega)
theorem zqc {s:StepT} (hb:∀ y∈bn,zbG y=true) (g:GoodS bn h s):zcF [zaO s,.lst (bn.map D.str),.int h]=some (.bl true):=by
 simp only [zcF,zhw,zaO,zb9,zay,sIf,zbb,zbX,orT,zcZ,toB,cF,zaa,zal,vSh,vC,b2,zma,zpL,zvg,qp,qM,qr,qP,List.replicate,qd,qe,qc,qf,if_false,Bool.not_true,Bool.false_eq_true,zvr,ziE g.nm,ziE g.kd,zp3 hb g.l1 g.l4 g.ws g.nd]
theorem zoh {ss:List StepT} (hb:∀ y∈bn,zbG y=true) (l1:1<=ss.length) (l4:ss.length<=40) (g:∀ s∈ss,GoodS bn h s) (nd:(ss.map (·.nm)).Nodup):zch [.lst (ss.map zaO),.lst (bn.map D.str),.int h]=some (.bl true):=by
 refine zaR [oS (.lst (ss.map zaO)),oS (.lst (bn.map D.str)),oS (.int h)] rfl ((zjH ?_ (zeL (r:=[oS (.lst (bn.map D.str)),oS (.int h)]) (a:=none) (xs:=ss.map zaO) rfl (by rw [qg];exact szN l4 (by decide)) rfl fun x hx=>?_)).trans (zaS ?_))
 ·exact ziH _ 1 40 ⟨by rw [qg];omega,by rw [qg];omega⟩
 ·obtain ⟨p,hp,rfl⟩:=List.mem_map.mp hx
  exact zqc hb (g p hp)
 ·have:=zeG (i:=0) (fv:=[none]) (ρ:=[oS (.lst (ss.map zaO)),oS (.lst (bn.map D.str)),oS (.int h)]) (f:=zaO) (nm:=(·.nm)) (xs:=ss) (fun x=>⟨_,rfl⟩) rfl (szN l4 (by decide)) rfl
  simp only [cF,zaa,zal,this,qc,qf]
  exact ze1 nd (by rw [qg];omega)
end
end Law
end
section
namespace Law
open PySem L2
theorem zq2 (a b:Str):neA (.str a) (.str b)=some (.bl (!decide (a=b))):=rfl
theorem znr (a b:Str):eqA (.str a) (.str b)=some (.bl (decide (a=b))):=rfl
theorem zq4 (a b:Int):neA (.int a) (.int b)=some (.bl (!decide (a=b))):=rfl
theorem zvj {a b c d:D}:zh4 none (some 3) (.tup [a,b,c,d])=some (.tup [a,b,c]):=rfl
theorem zvU {a b c:D}:zh4 none (some 2) (.tup [a,b,c])=some (.tup [a,b]):=rfl
theorem zuC (N H:D):zcz [.lst [],N,H]=some (.bl true):=by kernel_rfl
theorem zqk (N H:D):zbZ [.lst [],N,H]=some (.bl true):=by kernel_rfl
theorem zta (N H:D):zci [.lst [],N,H]=some (.bl true):=by kernel_rfl
theorem zqb (N:D):zbY [.lst [],N]=some (.bl true):=by kernel_rfl
section
variable {bs:List BenchT} {ss:List StepT} {js:List JobT} {us:List SetT} {ls:List LinkT} {ks:List StockT} {h:Int}
theorem Good.bnn (g:Good bs ss js us ls ks h):∀ y∈bs.map (·.nm),zbG y=true:=fun y hy=>by
 obtain ⟨b,hb,rfl⟩:=List.mem_map.mp hy
 exact (g.b b hb).nm
theorem Good.snn (g:Good bs ss js us ls ks h):∀ y∈ss.map (·.nm),zbG y=true:=fun y hy=>by
 obtain ⟨b,hb,rfl⟩:=List.mem_map.mp hy
 exact (g.s b hb).nm
theorem zmI (g:Good bs ss [] [] [] [] h):zbg [.lst (bs.map zaK),.lst (ss.map zaO),.lst [],.lst [],.lst [],.lst [],.int h]=some .non:=by
 have n1:za1 (zaP (itF (vSh 0)) (zaJ 0) tT (b2 ixD (vSh 0) (vC (.int 0))) [none]) [oS (.lst (bs.map zaK)),oS (.lst (ss.map zaO)),oS (.lst []),oS (.lst []),oS (.lst []),oS (.lst []),oS (.int h),none,none]=some (.lst ((bs.map (·.nm)).map D.str)) :=
  zeG (f:=zaK) (nm:=(·.nm)) (xs:=bs) (fun x=>⟨_,rfl⟩) rfl (szN g.bl.2 (by decide)) rfl
 have n2:za1 (zaP (itF (vSh 1)) (zaJ 0) tT (b2 ixD (vSh 0) (vC (.int 0))) [none]) [oS (.lst (bs.map zaK)),oS (.lst (ss.map zaO)),oS (.lst []),oS (.lst []),oS (.lst []),oS (.lst []),oS (.int h),oS (.lst ((bs.map (·.nm)).map D.str)),none]=some (.lst ((ss.map (·.nm)).map D.str)) :=
  zeG (f:=zaO) (nm:=(·.nm)) (xs:=ss) (fun x=>⟨_,rfl⟩) rfl (szN g.sl.2 (by decide)) rfl
 refine zaR [oS (.lst (bs.map zaK)),oS (.lst (ss.map zaO)),oS (.lst []),oS (.lst []),oS (.lst []),oS (.lst []),oS (.int h),none,none] rfl ((zhc ?_).trans ((zhc ?_).trans ((zaD n1).trans ((zhc ?_).trans ((zaD n2).trans ((zhc ?_).trans ((zhc ?_).trans ((zhc ?_).trans ((zhc ?_).trans (zaS rfl))))))))))
 ·exact zeD h 1 1000000 g.hh
 ·exact zl7 g.bl.1 g.bl.2 g.b g.bn
 ·exact zoh g.bnn g.sl.1 g.sl.2 g.s g.sn
 ·exact zaL (zaf rfl (zaf rfl (zaf rfl zat))) (zuC _ _)
 ·exact zaL (zaf rfl (zaf rfl (zaf rfl zat))) (zqk _ _)
 ·exact zaL (zaf rfl (zaf rfl (zaf rfl zat))) (zta _ _)
 ·exact zaL (zaf rfl (zaf rfl zat)) (zqb _)
end
end Law
end
section
namespace Law
open PySem L2
def Pl:Nat->D->Prop
 | 0,_=>False
 | n+1,.lst l=>l.length<=sizeLine/\∀ x∈l,Pl n x
 | n+1,.tup l=>l.length<=sizeLine/\∀ x∈l,Pl n x
 | _+1,.non=>True
 | _+1,.bl _=>True
 | _+1,.int _=>True
 | _+1,.str _=>True
 | _+1,_=>False
theorem zcf {ft:FT} {X E:FS} {ρ:zaZ} (h:ft ρ=some false):zay (sIf ft X zbX) E ρ=E ρ:=by
 simp only [zay,sIf,h,qc,Bool.false_eq_true,if_false,zbX]
theorem zj9 {ft:FT} {A B E:FS} {ρ ρ':zaZ} {d:D} (h:ft ρ=some true) (h2:A ρ=some (.rt d,ρ')):zay (sIf ft A B) E ρ=some (.rt d,ρ'):=by
 simp only [zay,sIf,h,qc,if_true,h2]
theorem ziO:∀ (n:Nat) (d:D),Pl n d->zdx n [d]=some d
 | 0,_,h=>h.elim
 | n+1,.lst l,h=>by
  refine zaR [oS (.lst l)] rfl (zj9 (za4 (b:=true) ?_) (zaS ?_))
  ·simp only [cF,zaa,zal,vSh,vC,zgz,tyD,qd,qc,qf,k1]
  ·have:=zb7 (fi:=itF (vSh 0)) (fe:=cF (zdx n) (zaa (vSh 0) zal)) (fv:=[none]) (ρ:=[oS (.lst l)]) (r:=[]) (a:=none) (xs:=l) (f:=fun x=>x) rfl h.1 rfl (fun x hx=>by simp only [cF,zaa,zal,vSh,qd,qc,qf,ziO n x (h.2 x hx)])
   rw [List.map_id'] at this
   exact this
 | n+1,.tup l,h=>by
  refine zaR [oS (.tup l)] rfl ((zcf (za4 (b:=false) ?_)).trans (zj9 (za4 (b:=true) ?_) (zaS (zaL (zaf (d:=.lst l) ?_ zat) rfl))))
  ·simp only [cF,zaa,zal,vSh,vC,zgz,tyD,qd,qc,qf,k2]
  ·simp only [cF,zaa,zal,vSh,vC,zgz,tyD,qd,qc,qf,k3]
  ·have:=zb7 (fi:=itF (vSh 0)) (fe:=cF (zdx n) (zaa (vSh 0) zal)) (fv:=[none]) (ρ:=[oS (.tup l)]) (r:=[]) (a:=none) (xs:=l) (f:=fun x=>x) rfl h.1 rfl (fun x hx=>by simp only [cF,zaa,zal,vSh,qd,qc,qf,ziO n x (h.2 x hx)])
   rw [List.map_id'] at this
   exact this
 | n+1,.non,h=>by
  show zdy (zdx n) [.non]=some .non
  unfold zdy
  refine zaR [oS .non] rfl ((zcf (za4 (b:=false) ?_)).trans ((zcf (za4 (b:=false) ?_)).trans (zaS (f:=vSh 0) rfl))) <;> simp only [cF,zaa,zal,vSh,vC,zgz,tyD,qd,qc,qf,k10,k11]
 | n+1,.bl b,h=>by
  show zdy (zdx n) [.bl b]=some (.bl b)
  unfold zdy
  refine zaR [oS (.bl b)] rfl ((zcf (za4 (b:=false) ?_)).trans ((zcf (za4 (b:=false) ?_)).trans (zaS (f:=vSh 0) rfl))) <;> simp only [cF,zaa,zal,vSh,vC,zgz,tyD,qd,qc,qf,k8,k9]
 | n+1,.int b,h=>by
  show zdy (zdx n) [.int b]=some (.int b)
  unfold zdy
  refine zaR [oS (.int b)] rfl ((zcf (za4 (b:=false) ?_)).trans ((zcf (za4 (b:=false) ?_)).trans (zaS (f:=vSh 0) rfl))) <;> simp only [cF,zaa,zal,vSh,vC,zgz,tyD,qd,qc,qf,k6,k7]
 | n+1,.str b,h=>by
  show zdy (zdx n) [.str b]=some (.str b)
  unfold zdy
  refine zaR [oS (.str b)] rfl ((zcf (za4 (b:=false) ?_)).trans ((zcf (za4 (b:=false) ?_)).trans (zaS (f:=vSh 0) rfl))) <;> simp only [cF,zaa,zal,vSh,vC,zgz,tyD,qd,qc,qf,k4,k4,k5]
theorem zhe {d:D} (h:Pl 8 d):zaz [d]=some d:=ziO 8 d h
theorem zk5 {n:Nat} {α:Type} {f:α->D} {xs:List α} (hl:xs.length<=1000) (h:∀ x∈xs,Pl n (f x)):Pl (n+1) (.lst (xs.map f)) :=
 ⟨by rw [qg];exact szN hl (by decide),fun x hx=>by
  obtain ⟨y,hy,rfl⟩:=List.mem_map.mp hx
  exact h y hy⟩
theorem zvb {n:Nat} {xs:List (Str×Int)} (hl:xs.length<=1000):Pl (n+3) (.lst (xs.map dW)):=zk5 hl fun x _=>⟨by simp [sizeLine],by
 intro y hy
 simp only [qJ,qH,or_false] at hy
 rcases hy with rfl | rfl <;> trivial⟩
theorem zov {n:Nat} {h:Int} {b:BenchT} (g:GoodB h b):Pl (n+4) (zaK b):=⟨by simp [sizeLine],by
 intro y hy
 simp only [qJ,qH,or_false] at hy
 rcases hy with rfl | rfl
 ·trivial
 ·exact zk5 (by have:=g.len;omega) fun x _=>⟨by simp [sizeLine],by
   intro y hy
   simp only [qJ,qH,or_false] at hy
   rcases hy with rfl | rfl <;> trivial⟩⟩
theorem zqC {n:Nat} {bn:List Str} {h:Int} {s:StepT} (g:GoodS bn h s):Pl (n+4) (zaO s):=⟨by simp [sizeLine],by
 intro y hy
 simp only [qJ,qH,or_false] at hy
 rcases hy with rfl | rfl | rfl
 ·trivial
 ·trivial
 ·exact zvb (by have:=g.l4;omega)⟩
theorem zfY {α:Type} {nm:α->Str} {f:α->D}:∀ (xs:List α),zic (xs.map fun x=>.tup [.str (nm x),f x])=some (xs.map fun x=>(.inr (nm x),f x))
 | []=>rfl
 | x::r=>by simp only [qp,zic,zo4,qc,zfY r,qf]
theorem zib {α:Type} {t:α->List Str} {f:α->D}:∀ (xs:List α),zg3 (xs.map fun x=>.tup [.tup ((t x).map D.str),f x])=some (xs.map fun x=>((t x).map Sum.inr,f x))
 | []=>rfl
 | x::r=>by simp only [qp,zg3,zf2,qc,zib r,qf]
theorem zf0 {κ:Type} [DecidableEq κ] {ps:List (κ×D)} (h:(ps.map (·.1)).Nodup):ztZ ps=ps:=by
 have key:∀ (l a:List (κ×D)),((a++l).map (·.1)).Nodup->l.foldl (fun acc kv=>zki acc kv.1 kv.2) a=a++l:=by
  intro l
  induction l with
  | nil=>intro a _;simp
  | cons x r ih =>
   intro a hn
   have hx:(a.any fun kv=>decide (kv.1=x.1))=false:=by
    rw [List.any_eq_false]
    intro y hy z
    rw [List.map_append,List.nodup_append] at hn
    exact hn.2.2 y.1 (qS hy) x.1 (by simp) (of_decide_eq_true z)
   rw [List.foldl_cons]
   have e:zki a x.1 x.2=a++[x]:=by
    unfold zki
    rw [hx]
    rfl
   rw [e,ih (a++[x]) (by simpa using hn)]
   simp
 simpa [ztZ] using key ps [] (by simpa using h)
theorem zgM {β:Type}:∀ {fs:List (Str×β)} {i:Nat} {k:Str} {d:β},(fs.map (·.1)).Nodup->fs[i]?=some (k,d)->fs.lookup k=some d
 | [],i,k,d,_,h=>by simp at h
 | (a,b)::r,0,k,d,_,h=>by
  simp only [qd,Option.some.injEq,Prod.mk.injEq] at h
  obtain ⟨rfl,rfl⟩:=h
  simp [List.lookup]
 | (a,b)::r,i+1,k,d,nd,h=>by
  rw [qe] at h
  rw [qp,List.nodup_cons] at nd
  have ne:k≠a:=by
   intro z
   subst z
   exact nd.1 (qS (f:=(·.1)) (qN h))
  have hb:(k==a)=false:=by simpa using ne
  simp only [List.lookup,hb]
  exact zgM nd.2 h
theorem ziF {β:Type}:∀ {fs:List (Str×β)} {k:Str},k∉fs.map (·.1)->fs.lookup k=none
 | [],_,_=>rfl
 | (a,b)::r,k,h=>by
  rw [qp,qJ,not_or] at h
  have hb:(k==a)=false:=by simpa using h.1
  simp only [List.lookup,hb]
  exact ziF h.2
end Law
end
section
namespace Law
open PySem L2
def zvJ (j:JobT) (acc:List (Key×D)) (m:Str):List (Key×D):=zki acc (.inr m) (zpV j)
def jkv (js:List JobT):List (Key×D):=js.foldl (fun acc j=>j.ms.foldl (zvJ j) acc) []
def zn9 (bs:List BenchT) (ss:List StepT) (js:List JobT) (us:List SetT) (ls:List LinkT) (ks:List StockT) (h:Int):List (Str×D) :=
 [("benches",.lst (bs.map zaK)),("steps",.lst (ss.map zaO)),("jobs",.lst (js.map zpV)),("setups",.lst (us.map zjO)),("links",.lst (ls.map zhP)),("stocks",.lst (ks.map zhi)),("horizon",.int h),
 ("bench_by_name",.dk (bs.map fun b=>(.inr b.nm,zaK b))),("step_by_name",.dk (ss.map fun s=>(.inr s.nm,zaO s))),("setup_by_names",.dt (us.map fun u=>([u.b,u.p,u.q].map Sum.inr,.int u.n)))]
def zsb (bs:List BenchT) (ss:List StepT) (js:List JobT) (us:List SetT) (ls:List LinkT) (ks:List StockT) (h:Int):List (Str×D):=zn9 bs ss js us ls ks h++[(("job_by_step":Str),D.dk (jkv js))]
def zgA (bs:List BenchT) (ss:List StepT) (js:List JobT) (us:List SetT) (ls:List LinkT) (ks:List StockT) (h:Int):D:=.ins "Shop" (zsb bs ss js us ls ks h)
def zfD:List Str:=["benches","steps","jobs","setups","links","stocks","horizon","bench_by_name","step_by_name","setup_by_names","job_by_step"]
theorem ziK:zfD.Nodup:=by decide +kernel
theorem zmR {α:Type} {l:List α} (h:l.Nodup) (n:Nat):(l.take n).Nodup:=List.Sublist.nodup (List.take_sublist n l) h
section
variable {fs:List (Str×D)} {f:Str} {fv:FE} {r:zaZ} {g:FS} {d:D}
theorem zdu (n:Nat) (hk:zfD[n]?=some f) (hf:fs.map (·.1)=zfD.take n) (h:fv (some (.obj "Shop" fs)::r)=some d):zay (zfz "Shop" f 0 fv) g (some (.obj "Shop" fs)::r)=g (some (.obj "Shop" (fs++[(f,d)]))::r):=by
 have hno:fs.lookup f=none:=ziF (by
  rw [hf]
  intro z
  obtain ⟨i,hi⟩:=List.getElem?_of_mem z
  have hin:i < n:=by
   rcases Nat.lt_or_ge i n with q | q
   ·exact q
   ·rw [List.getElem?_eq_none (by rw [qD];omega)] at hi;cases hi
  rw [List.getElem?_take_of_lt hin] at hi
  have:=(List.getElem?_inj (List.getElem?_eq_some_iff.mp hi).1 ziK).mp (hi.trans hk.symm)
  omega)
 have hlen:fs.length < 100:=by
  have:=congrArg List.length hf
  rw [qg,qD] at this
  have k:zfD.length=11:=rfl
  omega
 simp only [zay,zfz,h,qc,qd,hno,hlen,and_self,if_true,List.set_cons_zero]
theorem ziD (n i:Nat) (hf:fs.map (·.1)=zfD.take n) (h:fs[i]?=some (f,d)):zhL "Shop" f 0 (some (.obj "Shop" fs)::r)=some d:=by
 have e:fs.lookup f=some d:=zgM (by rw [hf];exact zmR ziK n) h
 show (if some ("Shop":Str)=some ("Shop":Str) then fs.lookup f else none)=some d
 rw [qU rfl,e]
end
theorem znx {α:Type} {f:α->D} {nm:α->Str} {xs:List α} {fo:FE} {ρ:zaZ} (hf:∀ x,∃ r,f x=.tup (.str (nm x)::r)) (h1:fo ρ=some (.lst (xs.map f))) (h2:xs.length<=1000) (nd:(xs.map nm).Nodup) :
  cF zgm (zaa (za1 (zaP (itF fo) (zaJ 0) tT (zbW (szF (zaa (b2 ixD (vSh 0) (vC (.int 0))) (zaa (vSh 0) zal)))) [none])) zal) ρ=some (.dk (xs.map fun x=>(.inr (nm x),f x))):=by
 have hc:=zb7 (fi:=itF fo) (fe:=zbW (szF (zaa (b2 ixD (vSh 0) (vC (.int 0))) (zaa (vSh 0) zal)))) (fv:=[none]) (ρ:=ρ) (r:=[]) (a:=none) (xs:=xs.map f) (f:=fun d=>.tup [match d with | .tup (x::_)=>x | _=>.non,d]) (by unfold itF;rw [h1];rfl) (by rw [qg];exact szN h2 (by decide)) rfl (fun x hx=>by
  obtain ⟨y,_,rfl⟩:=List.mem_map.mp hx
  obtain ⟨r,e⟩:=hf y
  simp only [zaa,zal,vSh,vC,b2,zbW,szF,zma,qd,qc,qf,if_true,qj,qo,Nat.zero_add,sz2,e])
 have e:(xs.map f).map (fun d=>D.tup [match d with | .tup (x::_)=>x | _=>.non,d])=xs.map fun x=>.tup [.str (nm x),f x]:=by
  rw [qq]
  refine List.map_congr_left fun x _=>?_
  obtain ⟨r,e⟩:=hf x
  simp [e]
 rw [e] at hc
 have kn:((xs.map fun x=>((.inr (nm x):Key),f x)).map (·.1)).Nodup:=by
  rw [qq]
  have:=List.Pairwise.map (S:=fun a b:Key=>a≠b) (Sum.inr:Str->Key) (fun a b hab z=>hab (Sum.inr.inj z)) nd
  rw [qq] at this
  exact this
 refine zaL (zaf hc zat) ?_
 show (if _ then _ else _)=_
 rw [qU (by rw [qg];exact h2),zfY,qf,zf0 kn]
theorem zo7 {us:List SetT} {fo:FE} {ρ:zaZ} (h1:fo ρ=some (.lst (us.map zjO))) (h2:us.length<=1000) (nd:(us.map fun u=>[u.b,u.p,u.q]).Nodup) :
  cF zlp (zaa (za1 (zaP (itF fo) (zaJ 0) tT (zbW (szF (zaa (slF (vSh 0) pN (pS (vC (.int 3)))) (zaa (b2 ixD (vSh 0) (vC (.int 3))) zal)))) [none])) zal) ρ=some (.dt (us.map fun u=>([u.b,u.p,u.q].map Sum.inr,.int u.n))):=by
 have hc:=zb7 (fi:=itF fo) (fe:=zbW (szF (zaa (slF (vSh 0) pN (pS (vC (.int 3)))) (zaa (b2 ixD (vSh 0) (vC (.int 3))) zal)))) (fv:=[none]) (ρ:=ρ) (r:=[]) (a:=none) (xs:=us.map zjO) (f:=fun d=>match d with | .tup [a,b,c,d]=>.tup [.tup [a,b,c],d] | _=>.non) (by unfold itF;rw [h1];rfl) (by rw [qg];exact szN h2 (by decide)) rfl (fun x hx=>by
  obtain ⟨y,_,rfl⟩:=List.mem_map.mp hx
  simp only [zaa,zal,vSh,vC,b2,zbW,szF,slF,pN,pS,zvN,qd,qc,qf,if_true,qj,qo,Nat.zero_add,sz2,zjO,zvj])
 rw [qq] at hc
 have kn:((us.map fun u=>([u.b,u.p,u.q].map (Sum.inr:Str->Key),D.int u.n)).map (·.1)).Nodup:=by
  rw [qq]
  have inj:∀ a b:List Str,a.map (Sum.inr:Str->Key)=b.map Sum.inr->a=b:=fun a b z=>(List.map_inj_right (fun x y q=>Sum.inr.inj q)).mp z
  have:=List.Pairwise.map (S:=fun a b:List Key=>a≠b) (List.map (Sum.inr:Str->Key)) (fun a b hab z=>hab (inj a b z)) nd
  rw [qq] at this
  exact this
 refine zaL (zaf hc zat) ?_
 show (if _ then _ else _)=_
 have e:=zib (t:=fun u:SetT=>[u.b,u.p,u.q]) (f:=fun u=>.int u.n) us
 rw [qU (by rw [qg];exact h2)]
 have e2:zg3 (us.map ((fun d=>match d with | .tup [a,b,c,d]=>D.tup [.tup [a,b,c],d] | _=>.non) ∘ zjO))=some (us.map fun u=>([u.b,u.p,u.q].map Sum.inr,.int u.n)):=e
 rw [e2,qf,zf0 kn]
section
variable {bs:List BenchT} {ss:List StepT} {js:List JobT} {us:List SetT} {ls:List LinkT} {ks:List StockT} {h:Int}
theorem zjK:(zn9 bs ss js us ls ks h).map (·.1)=zfD.take 10:=rfl
theorem zjJ:(zsb bs ss js us ls ks h).map (·.1)=zfD:=rfl
abbrev r9 (bs:List BenchT) (ss:List StepT) (js:List JobT) (us:List SetT) (ls:List LinkT) (ks:List StockT) (h:Int) (a b:Option Slot):zaZ:=[oS (.lst (bs.map zaK)),oS (.lst (ss.map zaO)),oS (.lst (js.map zpV)),oS (.lst (us.map zjO)),oS (.lst (ls.map zhP)),oS (.lst (ks.map zhi)),oS (.int h),oS .non,a,b]
abbrev ob (bs:List BenchT) (ss:List StepT) (js:List JobT) (us:List SetT) (ls:List LinkT) (ks:List StockT) (h:Int) (kvs:List (Key×D)):Option Slot:=some (.objd "Shop" (zn9 bs ss js us ls ks h) "job_by_step" kvs)
theorem zrj (g:Good bs ss [] [] [] [] h):zbq [.lst (bs.map zaK),.lst (ss.map zaO),.lst [],.lst [],.lst [],.lst [],.int h]=some (zgA bs ss [] [] [] [] h):=by
 have hl:(ss.map (·.nm)).length<=40:=by rw [qg];exact g.sl.2
 have f1:=zhe (d:=.lst (bs.map zaK)) (zk5 (by have:=g.bl.2;omega) fun x hx=>zov (g.b x hx))
 have f2:=zhe (d:=.lst (ss.map zaO)) (zk5 (by have:=g.sl.2;omega) fun x hx=>zqC (g.s x hx))
 have f3:=zhe (d:=.lst []) ⟨by simp [sizeLine],fun y hy=>(by cases hy)⟩
 have key:∀ (G:FS) (ρ':zaZ),G (some (.obj "Shop" [])::[oS (.lst (bs.map zaK)),oS (.lst (ss.map zaO)),oS (.lst []),oS (.lst []),oS (.lst []),oS (.lst []),oS (.int h),none,none,none])=some (.nx,ob bs ss [] [] [] [] h (jkv [])::ρ') ->
   zr3 3 "Shop" G [.lst (bs.map zaK),.lst (ss.map zaO),.lst [],.lst [],.lst [],.lst [],.int h]=some (zgA bs ss [] [] [] [] h):=fun G ρ' e=>by
  unfold zr3
  show (G (some (.obj "Shop" [])::[oS (.lst (bs.map zaK)),oS (.lst (ss.map zaO)),oS (.lst []),oS (.lst []),oS (.lst []),oS (.lst []),oS (.int h),none,none,none])).bind _=_
  rw [e]
  rfl
 refine key _ (r9 bs ss [] [] [] [] h none none) ((zaD (zaL rfl (zmI g))).trans ?_)
 show zay _ _ (some (.obj "Shop" [])::r9 bs ss [] [] [] [] h none none)=_
 refine (zcf (za4 (b:=false) rfl)).trans ?_
 refine (zdu 0 rfl rfl (zaL rfl f1)).trans ?_
 refine (zdu 1 rfl rfl (zaL rfl f2)).trans ?_
 refine (zdu 2 rfl rfl (zaL rfl f3)).trans ?_
 refine (zdu 3 rfl rfl (zaL rfl f3)).trans ?_
 refine (zdu 4 rfl rfl (zaL rfl f3)).trans ?_
 refine (zdu 5 rfl rfl (zaL rfl f3)).trans ?_
 refine (zdu 6 rfl rfl (d:=.int h) rfl).trans ?_
 refine (zdu 7 rfl rfl (znx (f:=zaK) (nm:=(·.nm)) (xs:=bs) (fun x=>⟨_,rfl⟩) (ziD 7 0 rfl rfl) (by have:=g.bl.2;omega) g.bn)).trans ?_
 refine (zdu 8 rfl rfl (znx (f:=zaO) (nm:=(·.nm)) (xs:=ss) (fun x=>⟨_,rfl⟩) (ziD 8 1 rfl rfl) (by have:=g.sl.2;omega) g.sn)).trans ?_
 refine (zdu 9 rfl rfl (zo7 (us:=[]) (ziD 9 3 rfl rfl) (by have:=g.ul;omega) g.un)).trans ?_
 have hno:(zn9 bs ss [] [] [] [] h).lookup ("job_by_step":Str)=none:=ziF (by rw [zjK];decide +kernel)
 have hle:(zn9 bs ss [] [] [] [] h).length < 100:=by simp [zn9]
 have e1:zr0 "Shop" "job_by_step" 0 (some (.obj "Shop" (zn9 bs ss [] [] [] [] h))::r9 bs ss [] [] [] [] h none none)=some (.nx,ob bs ss [] [] [] [] h []::r9 bs ss [] [] [] [] h none none):=by
  simp only [zr0,qd,hno,hle,and_self,if_true,List.set_cons_zero]
 have e2:itF (zhL "Shop" "jobs" 0) (ob bs ss [] [] [] [] h []::r9 bs ss [] [] [] [] h none none)=some []:=by
  have lk:(zn9 bs ss [] [] [] [] h).lookup ("jobs":Str)=some (.lst []):=zgM (i:=2) (by rw [zjK];exact zmR ziK 10) rfl
  have n1:("jobs":Str)≠"job_by_step":=by decide +kernel
  have e:zhL "Shop" "jobs" 0 (ob bs ss [] [] [] [] h []::r9 bs ss [] [] [] [] h none none)=some (.lst []):=by
   show (if some ("Shop":Str)=some ("Shop":Str) then (if ("jobs":Str)="job_by_step" then none else (zn9 bs ss [] [] [] [] h).lookup ("jobs":Str)) else none)=_
   rw [qU rfl,qV n1,lk]
  unfold itF
  rw [e];rfl
 show zay (zr0 "Shop" "job_by_step" 0) (zeR (itF (zhL "Shop" "jobs" 0)) (zaJ 9) sNo) (some (.obj "Shop" (zn9 bs ss [] [] [] [] h))::r9 bs ss [] [] [] [] h none none)=_
 unfold zay
 rw [e1,qc]
 show zeR _ _ _ _=_
 unfold zeR
 rw [e2,qc]
 rfl
end
end Law
end
section
namespace Law
open PySem L2
theorem zde {ft:FT} {g g':FS} {ρ:zaZ} {b:Bool} (h:ft ρ=some b):sIf ft g g' ρ=if b=true then g ρ else g' ρ:=by unfold sIf;rw [h];rfl
theorem zbr {g g':FS} {ρ ρ1:zaZ} (h:g ρ=some (.nx,ρ1)):zay g g' ρ=g' ρ1:=by unfold zay;rw [h];rfl
theorem zfw {i:Nat} {f:FE} {ρ:zaZ} {d:D} (h:f ρ=some d):zba i f ρ=some (.nx,ρ.set i (oS d)):=by unfold zba;rw [h];rfl
theorem zlx {i:Nat} {f:FE} {ρ:zaZ} {ds:List D} {d:D} (h1:ρ[i]?=some (some (.own ds))) (h2:f ρ=some d) (h3:ds.length < sizeLine):zfX i f ρ=some (.nx,ρ.set i (some (.own (ds++[d])))):=by
 unfold zfX
 rw [h1]
 show (f ρ).bind _=_
 rw [h2,qc,qU h3]
theorem zfB {i:Nat} {g:FS} {ρ:zaZ}:zay (zhG i (szF zal)) g ρ=g (ρ.set i (some (.own []))):=by
 have z0:(0<=sizeLine)=True:=by simp
 simp only [zay,zhG,szF,zal,qc,qf,qo,z0,if_true]
theorem zeu {i:Nat} {g:FS} {ρ:zaZ} {ds:List D} (h1:ρ[i]?=some (some (.own ds))):zh6 i g ρ=g (ρ.set i (oS (.lst ds))):=by unfold zh6;rw [h1]
theorem zct {fi:FA} {gg:FG} {body:FS} {ρ:zaZ} {xs:List D} (h:fi ρ=some xs):zeR fi gg body ρ=zlX gg body xs ρ:=by unfold zeR;rw [h];rfl
theorem zcc {a b:Int} (h:0 < b):zb6 (.int a) (.int b)=some (.int (a % b)):=qU h
theorem ziP {a b:Int} (h:0 < b/\b < 1073741824):zfh (.int a) (.int b)=some (.int (a / b)):=qU h
theorem zuP:(2:Int) ^ 64=18446744073709551616:=by decide +kernel
theorem zgl {a b:Int} (h:(-1000000000000 < a/\a < 1000000000000)\/(-1000000000000 < b/\b < 1000000000000)):zdX (.int a) (.int b)=some (.int (a*b)):=by
 show (if _ then _ else _)=_
 rw [zuP]
 exact qU (by omega)
theorem zd1 (ns:List Int) (k:Nat):zar [.scr ns,.int (k:Int)]=some (.int (ns.getD k 0)):=by
 have e:toB (b2 ltD (vSh 1) (cF zdK (zaa (vSh 0) zal))) [oS (.scr ns),oS (.int k)]=some (decide (k < ns.length)):=by
  simp only [toB,cF,zaa,zal,vSh,b2,zdK,ltD,qd,qe,qc,qf]
  congr 1
  exact decide_eq_decide.mpr (by omega)
 by_cases h:k < ns.length
 ·refine zaR [oS (.scr ns),oS (.int k)] rfl (zj9 (e.trans (by rw [qQ h])) (zaS ?_))
  show (atI ns (k:Int)).map D.int=_
  rw [zfl]
  simp [List.getD,h]
 ·refine zaR [oS (.scr ns),oS (.int k)] rfl ((zcf (e.trans (by rw [qL h]))).trans (zaS ?_))
  have:ns.getD k 0=0:=by simp [List.getD,Nat.le_of_not_lt h]
  rw [this]
  rfl
abbrev dE (c:Int) (k:Nat) (sz:List Int) (n:Int) (ds:List Int) (a b:Option Slot):zaZ:=[oS (.int c),oS (.int k),oS (.lst (sz.map D.int)),oS (.int n),some (.own (ds.map D.int)),a,b]
def zkw:FS:=sIf (orT (toB (b2 eqD (b2 zb6 (vSh 0) (vC (.int 2))) (vC (.int 1)))) (toB (b2 eqD (vSh 3) (vC (.int 0))))) (zay (zba 3 (b2 zbv (b2 zb6 (b2 zbv (vSh 3) (vSh 0)) (vC (.int 2147483629))) (vC (.int 48271)))) (zay (zba 3 (b2 zbv (vSh 3) (b2 zdX (b2 zdX (vC (.int 7919)) (b2 zbv (vSh 1) (vSh 5))) (b2 zbv (vSh 1) (vSh 5))))) (zay (zba 3 (b2 zb6 (b2 zdX (vSh 3) (vSh 3)) (vC (.int 2147483587)))) (zfX 4 (b2 zb6 (b2 zfh (vSh 3) (vC (.int 16))) (vSh 6)))))) (zay (zfX 4 (b2 zb6 (vSh 3) (vSh 6))) (zba 3 (b2 zfh (vSh 3) (vSh 6))))
theorem zo6 {c n s:Int} {k t:Nat} {sz ds:List Int} (hk:k<=1000) (ht:t<=100) (hs:0 < s/\s < 1073741824) (hl:ds.length<=100):∃ n' d,zkw (dE c k sz n ds (oS (.int t)) (oS (.int s)))=some (.nx,dE c k sz n' (ds++[d]) (oS (.int t)) (oS (.int s)))/\0<=d/\d < s:=by
 have e1:toB (b2 eqD (b2 zb6 (vSh 0) (vC (.int 2))) (vC (.int 1))) (dE c k sz n ds (oS (.int t)) (oS (.int s)))=some (decide (c % 2=1)) :=
  za4 (zax (zax rfl rfl (zcc (by decide))) rfl rfl)
 have e2:toB (b2 eqD (vSh 3) (vC (.int 0))) (dE c k sz n ds (oS (.int t)) (oS (.int s)))=some (decide (n=0)):=za4 (zax rfl rfl rfl)
 have e3:orT (toB (b2 eqD (b2 zb6 (vSh 0) (vC (.int 2))) (vC (.int 1)))) (toB (b2 eqD (vSh 3) (vC (.int 0)))) (dE c k sz n ds (oS (.int t)) (oS (.int s)))=some (decide (c % 2=1) || decide (n=0)):=by
  unfold orT
  rw [e1,qc,e2]
  cases decide (c % 2=1) <;> rfl
 have hsz:(ds.map D.int).length < sizeLine:=by rw [qg];unfold sizeLine;omega
 unfold zkw
 rw [zde e3]
 split
 ·have q1:0<=(n+c) % 2147483629:=qT _ (by decide)
  have q2:(n+c) % 2147483629 < 2147483629:=qR _ (by decide)
  have q3:0<=(k:Int)+t/\(k:Int)+t<=1100:=by omega
  have q4:0<=7919*((k:Int)+t)*((k:Int)+t):=Int.mul_nonneg (by omega) q3.1
  have q5:7919*((k:Int)+t)*((k:Int)+t)<=7919*1100*1100:=Int.mul_le_mul (by omega) q3.2 q3.1 (by decide)
  let n2:Int:=(n+c) % 2147483629+48271+7919*((k:Int)+t)*((k:Int)+t)
  refine ⟨n2*n2 % 2147483587,n2*n2 % 2147483587 / 16 % s,(zaD (zax (zax (zax rfl rfl rfl) rfl (zcc (by decide))) rfl rfl)).trans ((zaD (zax rfl (zax (zax rfl (zax rfl rfl rfl) (zgl (.inl (by decide)))) (zax rfl rfl rfl) (zgl (.inr (by omega)))) rfl)).trans ((zaD (zax (zax rfl rfl (zgl (.inl (by omega)))) rfl (zcc (by decide)))).trans (zlx rfl (zax (zax rfl rfl (ziP (by decide))) rfl (zcc hs.1)) hsz))) |>.trans ?_,qT _ (by omega),qR _ hs.1⟩
  simp [dE]
  exact ⟨rfl,rfl⟩
 ·refine ⟨n / s,n % s,(zbr (zlx rfl (zax rfl rfl (zcc hs.1)) hsz)).trans (zfw (zax rfl rfl (ziP hs))) |>.trans ?_,qT _ (by omega),qR _ hs.1⟩
  simp [dE]
theorem zdZ {xs:List D} {i:Nat} {d:D} (h:(xs.mapIdx fun i d=>D.tup [.int i,d])[i]?=some d):∃ x,xs[i]?=some x/\d=.tup [.int i,x]:=by
 rw [List.getElem?_mapIdx] at h
 obtain ⟨x,hx,rfl⟩:=oMd h
 exact ⟨x,hx,rfl⟩
theorem zdf (c:Int) (k:Nat) (hk:k<=1000) (sz:List Int) (hs:∀ s∈sz,0 < s/\s < 1073741824) (hl:sz.length<=100) :
  ∃ ds:List Int,zai [.int c,.int (k:Int),.lst (sz.map D.int)]=some (.lst (ds.map D.int))/\ds.length=sz.length/\∀ (i:Nat) s,sz[i]?=some s->∃ d,ds[i]?=some d/\0<=d/\d < s:=by
 obtain ⟨n0,hn0⟩:∃ n0:Int,b2 zfh (cF zt1 (zaa (vSh 0) zal)) (vC (.int 2)) [oS (.int c),oS (.int k),oS (.lst (sz.map D.int)),none,none,none,none]=some (.int n0):=⟨_,zax (zaL (zaf rfl zat) rfl) rfl (ziP (by decide))⟩
 obtain ⟨ρ',h1,n,ds,a,b,h2,h3,h4⟩:=zc0 (gg:=zbC 2 (zau (zaJ 5) (zau (zaJ 6) zbB))) (body:=zkw) (xs:=(sz.map D.int).mapIdx fun i d=>D.tup [.int i,d]) (ρ:=dE c k sz n0 [] none none)
  (fun i ρ=>∃ n ds a b,ρ=dE c k sz n ds a b/\ds.length=i/\∀ (j:Nat) s,j < i->sz[j]?=some s->∃ d,ds[j]?=some d/\0<=d/\d < s) ⟨n0,[],none,none,rfl,rfl,fun j s hj=>by omega⟩ (fun i x ρ hx hI=>by
   obtain ⟨n,ds,a,b,rfl,hlen,hb⟩:=hI
   obtain ⟨y,hy,rfl⟩:=zdZ hx
   rw [qm] at hy
   obtain ⟨s,hsi,rfl⟩:=oMd hy
   have hi:i < sz.length:=(List.getElem?_eq_some_iff.mp hsi).1
   obtain ⟨n',d,e1,e2,e3⟩:=zo6 (c:=c) (n:=n) (k:=k) (t:=i) (sz:=sz) (ds:=ds) hk (by omega) (hs s (qN hsi)) (by omega)
   refine ⟨_,_,rfl,e1,n',ds++[d],_,_,rfl,by rw [qk,hlen];rfl,fun j s' hj hs'=>?_⟩
   by_cases hji:j=i
   ·subst hji
    rw [hsi] at hs'
    cases hs'
    exact ⟨d,by rw [qI (by omega),hlen,Nat.sub_self];rfl,e2,e3⟩
   ·obtain ⟨d',q1,q2⟩:=hb j s' (by omega) hs'
    exact ⟨d',by rw [qy (by omega)];exact q1,q2⟩)
 rw [List.length_mapIdx,qg] at h3 h4
 refine ⟨ds,?_,h3,fun i s hi=>h4 i s (List.getElem?_eq_some_iff.mp hi).1 hi⟩
 refine zaR [oS (.int c),oS (.int k),oS (.lst (sz.map D.int)),none,none,none,none] rfl ((zaD hn0).trans (zfB.trans ((zbr ((zct (xs:=(sz.map D.int).mapIdx fun i d=>D.tup [.int i,d]) rfl).trans (h1.trans (by rw [h2])))).trans ((zeu rfl).trans (zaS (f:=vSh 4) rfl)))))
end Law
end
section
namespace Law
open PySem L2
def nm (k:Nat):Str:=match zas [.int (k:Int)] with
 | some (.str x)=>x
 | _=>⟨#[]⟩
def zvh (k:Nat):Bool:=match zas [.int (k:Int)] with
 | some (.str x)=>zbG x
 | _=>false
theorem zs7:∀ k,k < 90->zvh k=true:=by decide +kernel
theorem zjx {k:Nat} (h:k < 90):zas [.int (k:Int)]=some (.str (nm k))/\zbG (nm k)=true:=by
 have:=zs7 k h
 unfold zvh at this
 unfold nm
 split at this
 ·rename_i x e
  rw [e]
  exact ⟨rfl,this⟩
 ·cases this
theorem zq1:∀ i,i < 10->∀ j,j < 10->nm i=nm j->i=j:=by decide +kernel
theorem zq0:∀ i,i < 3->∀ j,j < 3->nm (60+i)=nm (60+j)->i=j:=by decide +kernel
theorem zqZ:∀ i,i < 3->∀ j,j < 3->nm (70+i)=nm (70+j)->i=j:=by decide +kernel
theorem zqY:∀ i,i < 3->∀ j,j < 3->nm (80+i)=nm (80+j)->i=j:=by decide +kernel
def pqr (i:Nat):Str:=if i=0 then "p" else if i=1 then "q" else "r"
theorem zh9:∀ i,i < 3->zbG (pqr i)=true:=by decide +kernel
theorem zmD {i:Int} (h0:0<=i) (h:i < 3):ixD (.str "pqr") (.int i)=some (.str (pqr i.toNat)):=by
 have:i=0\/i=1\/i=2:=by omega
 rcases this with rfl | rfl | rfl <;> rfl
theorem ztI {xs:List D} {d:Int} (h:0<=d):zh4 none (some d) (.lst xs)=some (.lst (xs.take d.toNat)):=by
 show some (D.lst (zhH xs none (some d)))=_
 unfold zhH HT.sIx
 simp only
 rw [qV (by omega),List.drop_zero,Nat.sub_zero]
 congr 2
 rw [Nat.min_def]
 split
 ·rfl
 ·rw [List.take_of_length_le (qw _),List.take_of_length_le (by omega)]
theorem ztG {xs:List D} {d:Int} (h:0<=d):zh4 (some d) none (.lst xs)=some (.lst (xs.drop d.toNat)):=by
 show some (D.lst (zhH xs (some d) none))=_
 unfold zhH HT.sIx
 simp only
 rw [qV (by omega)]
 congr 2
 rw [Nat.min_def]
 split
 ·rw [List.take_of_length_le (by rw [List.length_drop];omega)]
 ·rw [List.drop_of_length_le (qw _),List.drop_of_length_le (by omega)];simp
theorem zoj {f:FE} {g:FE} {ρ:zaZ} {xs:List D} {d:Int} (h1:f ρ=some (.lst xs)) (h2:g ρ=some (.int d)) (h:0<=d):slF f pN (pS g) ρ=some (.lst (xs.take d.toNat)):=by
 unfold slF pN pS
 rw [h1,h2]
 exact ztI h
theorem zqg {f:FE} {g:FE} {ρ:zaZ} {xs:List D} {d:Int} (h1:f ρ=some (.lst xs)) (h2:g ρ=some (.int d)) (h:0<=d):slF f (pS g) pN ρ=some (.lst (xs.drop d.toNat)):=by
 unfold slF pN pS
 rw [h1,h2]
 exact ztG h
structure GoodI (h:Int) (br:List (Int×Int)):Prop where
 iv:∀ p∈br,0<=p.1/\p.1 < p.2/\p.2<=h
 gap:∀ (i:Nat) p q,br[i]?=some p->br[i+1]?=some q->p.2 < q.1
abbrev sE (rs:List (Int×Int)) (h:Int) (br:List (Int×Int)) (f:Int) (a b c d:Option Slot):zaZ:=[oS (.lst (rs.map dIv)),oS (.int h),some (.own (br.map dIv)),oS (.int f),a,b,c,d]
def zpw:FS:=zay (zba 6 (b2 zbv (vSh 3) (vSh 4))) (zay (zba 7 (b2 zbv (b2 zbv (vSh 6) (vC (.int 1))) (vSh 5))) (sIf (toB (b2 leD (vSh 7) (vSh 1))) (zay (zfX 2 (zbW (szF (zaa (vSh 6) (zaa (vSh 7) zal))))) (zba 3 (b2 zbv (vSh 7) (vC (.int 1))))) zbX))
theorem zcH {f g:FE} {ρ:zaZ} {x y:D} (h1:f ρ=some x) (h2:g ρ=some y):zbW (szF (zaa f (zaa g zal))) ρ=some (.tup [x,y]):=by
 simp only [zbW,szF,zaa,zal,h1,h2,qc,qf,qj,qo,Nat.zero_add,sz2,if_true]
theorem zj8 {f g e:FE} {ρ:zaZ} {x y z:D} (h1:f ρ=some x) (h2:g ρ=some y) (h3:e ρ=some z):zbW (szF (zaa f (zaa g (zaa e zal)))) ρ=some (.tup [x,y,z]):=by
 simp only [zbW,szF,zaa,zal,h1,h2,h3,qc,qf,qj,qo,Nat.zero_add,sz3,if_true]
theorem zp7 {f g e a:FE} {ρ:zaZ} {x y z w:D} (h1:f ρ=some x) (h2:g ρ=some y) (h3:e ρ=some z) (h4:a ρ=some w):zbW (szF (zaa f (zaa g (zaa e (zaa a zal))))) ρ=some (.tup [x,y,z,w]):=by
 simp only [zbW,szF,zaa,zal,h1,h2,h3,h4,qc,qf,qj,qo,Nat.zero_add,sz4,if_true]
theorem zmh {f g e a b:FE} {ρ:zaZ} {x y z w u:D} (h1:f ρ=some x) (h2:g ρ=some y) (h3:e ρ=some z) (h4:a ρ=some w) (h5:b ρ=some u):zbW (szF (zaa f (zaa g (zaa e (zaa a (zaa b zal)))))) ρ=some (.tup [x,y,z,w,u]):=by
 simp only [zbW,szF,zaa,zal,h1,h2,h3,h4,h5,qc,qf,qj,qo,Nat.zero_add,sz5,if_true]
theorem zoi (rs:List (Int×Int)) (h:Int) (hr:∀ p∈rs,0<=p.1/\0<=p.2) (hl:rs.length<=3):∃ br:List (Int×Int),zbO [.lst (rs.map dIv),.int h]=some (.lst (br.map dIv))/\br.length<=rs.length/\GoodI h br:=by
 obtain ⟨ρ',h1,br,f,a,b,c,d,h2,h3,h4,h5,h6⟩:=zc0 (gg:=zbC 2 (zau (zaJ 4) (zau (zaJ 5) zbB))) (body:=zpw) (xs:=rs.map dIv) (ρ:=sE rs h [] 0 none none none none)
  (fun i ρ=>∃ br f a b c d,ρ=sE rs h br f a b c d/\br.length<=i/\GoodI h br/\0<=f/\∀ p∈br,p.2 < f) ⟨[],0,none,none,none,none,rfl,qw _,⟨fun p hp=>(by cases hp),fun i p q hp=>(by simp at hp)⟩,Int.le_refl _,fun p hp=>(by cases hp)⟩ (fun i x ρ hx hI=>by
   obtain ⟨br,f,a,b,c,d,rfl,hlen,hg,hf,hlt⟩:=hI
   rw [qm] at hx
   obtain ⟨p,hp,rfl⟩:=oMd hx
   obtain ⟨p1,p2⟩:=hr p (qN hp)
   have hi:i < rs.length:=(List.getElem?_eq_some_iff.mp hp).1
   have hsz:(br.map dIv).length < sizeLine:=by rw [qg];unfold sizeLine;omega
   have pre:∀ ρ2,(sIf (toB (b2 leD (vSh 7) (vSh 1))) (zay (zfX 2 (zbW (szF (zaa (vSh 6) (zaa (vSh 7) zal))))) (zba 3 (b2 zbv (vSh 7) (vC (.int 1))))) zbX) (sE rs h br f (oS (.int p.1)) (oS (.int p.2)) (oS (.int (f+p.1))) (oS (.int (f+p.1+1+p.2))))=some (.nx,ρ2)->zpw (sE rs h br f (oS (.int p.1)) (oS (.int p.2)) c d)=some (.nx,ρ2):=fun ρ2 q =>
    (zaD (zax rfl rfl rfl)).trans ((zaD (zax (zax rfl rfl rfl) rfl rfl)).trans q)
   have e:toB (b2 leD (vSh 7) (vSh 1)) (sE rs h br f (oS (.int p.1)) (oS (.int p.2)) (oS (.int (f+p.1))) (oS (.int (f+p.1+1+p.2))))=some (decide (f+p.1+1+p.2<=h)):=za4 (zax rfl rfl rfl)
   by_cases hh:f+p.1+1+p.2<=h
   ·rw [qQ hh] at e
    refine ⟨_,_,rfl,pre _ ((zde e).trans ((qU rfl).trans ((zbr (zlx rfl (zcH rfl rfl) hsz)).trans (zfw (zax rfl rfl rfl))))),br++[(f+p.1,f+p.1+1+p.2)],f+p.1+1+p.2+1,oS (.int p.1),oS (.int p.2),oS (.int (f+p.1)),oS (.int (f+p.1+1+p.2)),?_,?_,⟨fun q hq=>?_,fun j q q' hq hq'=>?_⟩,by omega,fun q hq=>?_⟩
    ·simp [sE,dIv]
    ·rw [qk];simp;omega
    ·rcases List.mem_append.mp hq with z | z
     ·exact hg.iv q z
     ·rw [List.mem_singleton.mp z];exact ⟨by omega,by omega,hh⟩
    ·have hj:j+1 < br.length+1:=by
      have:=(List.getElem?_eq_some_iff.mp hq').1
      simpa using this
     rw [qy (by omega)] at hq
     by_cases hj2:j+1 < br.length
     ·rw [qy hj2] at hq'
      exact hg.gap j q q' hq hq'
     ·rw [qI (by omega),show j+1 - br.length=0 by omega] at hq'
      cases hq'
      have:=hlt q (qN hq)
      show q.2 < f+p.1
      omega
    ·rcases List.mem_append.mp hq with z | z
     ·have:=hlt q z;omega
     ·rw [List.mem_singleton.mp z];show f+p.1+1+p.2 < _;omega
   ·rw [qL hh] at e
    exact ⟨_,_,rfl,pre _ ((zde e).trans rfl),br,f,_,_,_,_,rfl,by omega,hg,hf,hlt⟩)
 rw [qg] at h3
 refine ⟨br,zaR [oS (.lst (rs.map dIv)),oS (.int h),none,none,none,none,none,none] rfl (zfB.trans ((zaD (d:=.int 0) rfl).trans ((zbr ((zct (xs:=rs.map dIv) rfl).trans (h1.trans (by rw [h2])))).trans ((zeu rfl).trans (zaS (f:=vSh 2) rfl))))),h3,h4⟩
theorem zfm {α:Type} {g:α->D} {xs:List α} {x:α} {i:Nat} {f:FE} {ρ:zaZ} (h1:ρ[i]?=some (some (.own (xs.map g)))) (h2:f ρ=some (g x)) (h3:xs.length<=1000):zfX i f ρ=some (.nx,ρ.set i (some (.own ((xs++[x]).map g)))):=by
 rw [zlx h1 h2 (by rw [qg];unfold sizeLine;omega),List.map_append];rfl
theorem zkp {f g e:FE} {ρ:zaZ} {x y z:D} (h1:f ρ=some x) (h2:g ρ=some y) (h3:e ρ=some z):za1 (szF (zaa f (zaa g (zaa e zal)))) ρ=some (.lst [x,y,z]):=by
 simp only [za1,szF,zaa,zal,h1,h2,h3,qc,qf,qj,qo,Nat.zero_add,sz3,if_true]
theorem zcw {f:FE} {ρ:zaZ} {ds:List Int} {n:Nat} {d:Int} (h1:f ρ=some (.lst (ds.map D.int))) (h2:ds[n]?=some d):b2 ixD f (vC (.int (n:Int))) ρ=some (.int d) :=
 zax h1 rfl (by rw [ixL,qm,h2];rfl)
structure BenchAt (h:Int) (i:Nat) (b:BenchT):Prop where
 nm:b.nm=nm (60+i)
 len:b.br.length<=3
 good:GoodI h b.br
abbrev bE (cs:List Int) (h:Int) (bs:List BenchT) (a b c d:Option Slot):zaZ:=[oS (.lst (cs.map D.int)),oS (.int h),some (.own (bs.map zaK)),a,b,c,d]
def zvl:FE:=za1 (szF (zaa (vC (.int 4)) (zaa (vC (.int 5)) (zaa (vC (.int 3)) (zaa (vC (.int 7)) (zaa (vC (.int 4)) (zaa (vC (.int 9)) (zaa (vC (.int 5)) zal))))))))
theorem zrQ (ρ:zaZ):zvl ρ=some (.lst (([4,5,3,7,4,9,5]:List Int).map D.int)):=rfl
def zp0:FS:=zay (zba 5 (cF zai (zaa (vSh 4) (zaa (vSh 3) (zaa zvl zal))))) (zay (zba 6 (slF (za1 (szF (zaa (zbW (szF (zaa (b2 ixD (vSh 5) (vC (.int 1))) (zaa (b2 ixD (vSh 5) (vC (.int 2))) zal)))) (zaa (zbW (szF (zaa (b2 ixD (vSh 5) (vC (.int 3))) (zaa (b2 ixD (vSh 5) (vC (.int 4))) zal)))) (zaa (zbW (szF (zaa (b2 ixD (vSh 5) (vC (.int 5))) (zaa (b2 ixD (vSh 5) (vC (.int 6))) zal)))) zal))))) pN (pS (b2 ixD (vSh 5) (vC (.int 0)))))) (zfX 2 (zbW (szF (zaa (cF zas (zaa (b2 zbv (vC (.int 60)) (vSh 3)) zal)) (zaa (cF zbO (zaa (vSh 6) (zaa (vSh 1) zal))) zal))))))
theorem zrP {cs:List Int} {h c:Int} {bs:List BenchT} {i:Nat} {y z:Option Slot} (hi:i < 3) (hl:bs.length<=3):∃ b u v,zp0 (bE cs h bs (oS (.int i)) (oS (.int c)) y z)=some (.nx,bE cs h (bs++[b]) (oS (.int i)) (oS (.int c)) u v)/\BenchAt h i b:=by
 obtain ⟨ds,e,hd,hb⟩:=zdf c i (by omega) [4,5,3,7,4,9,5] (by decide) (by decide)
 obtain ⟨d0,q0,p0,_⟩:=hb 0 4 rfl
 obtain ⟨d1,q1,p1,_⟩:=hb 1 5 rfl
 obtain ⟨d2,q2,p2,_⟩:=hb 2 3 rfl
 obtain ⟨d3,q3,p3,_⟩:=hb 3 7 rfl
 obtain ⟨d4,q4,p4,_⟩:=hb 4 4 rfl
 obtain ⟨d5,q5,p5,_⟩:=hb 5 9 rfl
 obtain ⟨d6,q6,p6,_⟩:=hb 6 5 rfl
 have hrs:∀ p∈([(d1,d2),(d3,d4),(d5,d6)]:List (Int×Int)).take d0.toNat,0<=p.1/\0<=p.2:=fun p hp=>by
  have:=List.mem_of_mem_take hp
  simp only [qJ,qH,or_false] at this
  rcases this with rfl | rfl | rfl
  ·exact ⟨p1,p2⟩
  ·exact ⟨p3,p4⟩
  ·exact ⟨p5,p6⟩
 obtain ⟨br,es,hbl,hbg⟩:=zoi (([(d1,d2),(d3,d4),(d5,d6)]:List (Int×Int)).take d0.toNat) h hrs (by rw [qD];simp;omega)
 have hn:=(zjx (k:=60+i) (by omega)).1
 have hn':zas [.int (60+(i:Int))]=some (.str (nm (60+i))):=by
  rw [← hn];congr 2
 refine ⟨⟨nm (60+i),br⟩,_,_,(zaD (d:=.lst (ds.map D.int)) (zaL (zaf rfl (zaf rfl (zaf (zrQ _) zat))) e)).trans ((zaD (d:=.lst ((([(d1,d2),(d3,d4),(d5,d6)]:List (Int×Int)).take d0.toNat).map dIv)) ?_).trans (zfm rfl (zcH (zaL (zaf (zax rfl rfl rfl) zat) hn') (zaL (zaf rfl (zaf rfl zat)) es)) (by omega))),rfl,by rw [qD] at hbl;simp at hbl;show br.length<=3;omega,hbg⟩
 rw [List.map_take]
 exact zoj (xs:=[dIv (d1,d2),dIv (d3,d4),dIv (d5,d6)]) (zkp (zcH (zcw rfl q1) (zcw rfl q2)) (zcH (zcw rfl q3) (zcw rfl q4)) (zcH (zcw rfl q5) (zcw rfl q6))) (zcw rfl q0) p0
theorem zkr (cs:List Int) (h:Int) (hl:cs.length<=3):∃ bs:List BenchT,zbA [.lst (cs.map D.int),.int h]=some (.lst (bs.map zaK))/\bs.length=cs.length/\∀ (i:Nat) b,bs[i]?=some b->BenchAt h i b:=by
 obtain ⟨ρ',h1,bs,a,b,c,d,h2,h3,h4⟩:=zc0 (gg:=zbC 2 (zau (zaJ 3) (zau (zaJ 4) zbB))) (body:=zp0) (xs:=(cs.map D.int).mapIdx fun i d=>D.tup [.int i,d]) (ρ:=bE cs h [] none none none none)
  (fun i ρ=>∃ bs a b c d,ρ=bE cs h bs a b c d/\bs.length=i/\∀ (j:Nat) b,bs[j]?=some b->BenchAt h j b) ⟨[],none,none,none,none,rfl,rfl,fun j b hj=>(by simp at hj)⟩ (fun i x ρ hx hI=>by
   obtain ⟨bs,a,b,c,d,rfl,hlen,hb⟩:=hI
   obtain ⟨y,hy,rfl⟩:=zdZ hx
   rw [qm] at hy
   obtain ⟨s,hsi,rfl⟩:=oMd hy
   have hi:i < cs.length:=(List.getElem?_eq_some_iff.mp hsi).1
   obtain ⟨b',u,v,e1,e2⟩:=zrP (cs:=cs) (h:=h) (c:=s) (bs:=bs) (i:=i) (y:=c) (z:=d) (by omega) (by omega)
   refine ⟨_,_,rfl,e1,bs++[b'],_,_,_,_,rfl,by rw [qk,hlen];rfl,fun j b'' hj=>?_⟩
   by_cases hji:j < bs.length
   ·rw [qy hji] at hj
    exact hb j b'' hj
   ·have hl2:=(List.getElem?_eq_some_iff.mp hj).1
    rw [qk,List.length_singleton] at hl2
    rw [qI (by omega),show j - bs.length=0 by omega] at hj
    cases hj
    rw [show j=i by omega]
    exact e2)
 rw [List.length_mapIdx,qg] at h3
 exact ⟨bs,zaR [oS (.lst (cs.map D.int)),oS (.int h),none,none,none,none,none] rfl (zfB.trans ((zbr ((zct (xs:=(cs.map D.int).mapIdx fun i d=>D.tup [.int i,d]) rfl).trans (h1.trans (by rw [h2])))).trans ((zeu rfl).trans (zaS (f:=vSh 2) rfl)))),h3,h4⟩
end Law
end
section
namespace Law
open PySem L2
def bnm (bs:List BenchT) (i:Nat):Str:=(bs.map (·.nm)).getD i ⟨#[]⟩
theorem znV {bs:List BenchT} {i:Nat} (h:i < bs.length):bnm bs i∈bs.map (·.nm):=by
 unfold bnm
 rw [List.getD_eq_getElem?_getD,qm,qC h]
 exact qS (List.getElem_mem h)
theorem zlw {bs:List BenchT} {ρ:zaZ} {f g:FE} {d:Int} (h1:f ρ=some (.lst (bs.map zaK))) (h2:g ρ=some (.int d)) (h3:0<=d) (h4:d < bs.length):b2 ixD (b2 ixD f g) (vC (.int 0)) ρ=some (.str (bnm bs d.toNat)):=by
 obtain ⟨n,rfl⟩:=Int.eq_ofNat_of_zero_le h3
 have hd:n < bs.length:=by omega
 have e:ixD (.lst (bs.map zaK)) (.int (n:Int))=some (zaK bs[n]):=by
  rw [ixL,qm,qC hd]
  rfl
 refine zax (zax h1 h2 e) rfl ?_
 show ixD (.tup _) (.int 0)=_
 rw [zma]
 unfold bnm
 rw [Int.toNat_natCast,List.getD_eq_getElem?_getD,qm,qC hd]
 rfl
structure StepAt (bn:List Str) (h lo:Int) (i:Nat) (s:StepT):Prop where
 nm:s.nm=nm i
 good:GoodS bn h s
 ml:∀ w∈s.ws,w.2<=lo
abbrev tE (cs:List Int) (bs:List BenchT) (h lo:Int) (ss:List StepT) (a b c d:Option Slot):zaZ:=[oS (.lst (cs.map D.int)),oS (.lst (bs.map zaK)),oS (.int h),oS (.int lo),some (.own (ss.map zaO)),a,b,c,d]
theorem zm5 {f:FE} {ρ:zaZ} {x:D} (h1:f ρ=some x):szF (zaa f zal) ρ=some [x]:=by
 simp only [szF,zaa,zal,h1,qc,qf,qj,qo,Nat.zero_add,sz1,if_true]
theorem zm4 {f g e a b c:FE} {ρ:zaZ} {x y z w u v:D} (h1:f ρ=some x) (h2:g ρ=some y) (h3:e ρ=some z) (h4:a ρ=some w) (h5:b ρ=some u) (h6:c ρ=some v):za1 (szF (zaa f (zaa g (zaa e (zaa a (zaa b (zaa c zal))))))) ρ=some (.lst [x,y,z,w,u,v]):=by
 simp only [za1,szF,zaa,zal,h1,h2,h3,h4,h5,h6,qc,qf,qj,qo,Nat.zero_add,sz6,if_true]
theorem zm2 {f g e a b c d:FE} {ρ:zaZ} {x y z w u v t:D} (h1:f ρ=some x) (h2:g ρ=some y) (h3:e ρ=some z) (h4:a ρ=some w) (h5:b ρ=some u) (h6:c ρ=some v) (h7:d ρ=some t):za1 (szF (zaa f (zaa g (zaa e (zaa a (zaa b (zaa c (zaa d zal)))))))) ρ=some (.lst [x,y,z,w,u,v,t]):=by
 simp only [za1,szF,zaa,zal,h1,h2,h3,h4,h5,h6,h7,qc,qf,qj,qo,Nat.zero_add,sz7,if_true]
theorem ziC {i:Nat} {fr:FA} {g:FS} {ρ:zaZ} {ds:List D} (h:fr ρ=some ds):zay (zhG i fr) g ρ=g (ρ.set i (some (.own ds))):=by
 simp only [zay,zhG,h,qf,qc]
theorem zjd {f g:FT} {ρ:zaZ} {a b:Bool} (h1:f ρ=some a) (h2:g ρ=some b):zj3 f g ρ=some (a && b):=by
 unfold zj3;rw [h1,qc,h2];cases a <;> rfl
theorem zkm (a:Int) {h:Int} (hh:1<=h):1<=1+a % h/\1+a % h<=h:=by
 have h1:=qT a (show h≠0 by omega)
 have h2:=qR a (show 0 < h by omega)
 omega
def zpv:FS:=(zay (zba 7 (cF zai (zaa (vSh 6) (zaa (b2 zbv (vSh 5) (vC (.int 7))) (zaa (za1 (szF (zaa (vC (.int 3)) (zaa (cF zdK (zaa (vSh 1) zal)) (zaa (vSh 3) (zaa (cF zdK (zaa (vSh 1) zal)) (zaa (vSh 3) (zaa (vC (.int 3)) zal)))))))) zal))))) (zay (zhG 8 (szF (zaa (zbW (szF (zaa (b2 ixD (b2 ixD (vSh 1) (b2 ixD (vSh 7) (vC (.int 1)))) (vC (.int 0))) (zaa (b2 zbv (vC (.int 1)) (b2 zb6 (b2 ixD (vSh 7) (vC (.int 2))) (vSh 2))) zal)))) zal))) (zay (sIf (zj3 (toB (b2 eqD (b2 ixD (vSh 7) (vC (.int 0))) (vC (.int 0)))) (toB (b2 neA (b2 ixD (vSh 7) (vC (.int 3))) (b2 ixD (vSh 7) (vC (.int 1)))))) (zfX 8 (zbW (szF (zaa (b2 ixD (b2 ixD (vSh 1) (b2 ixD (vSh 7) (vC (.int 3)))) (vC (.int 0))) (zaa (b2 zbv (vC (.int 1)) (b2 zb6 (b2 ixD (vSh 7) (vC (.int 4))) (vSh 2))) zal))))) zbX) (zh6 8 (zfX 4 (zbW (szF (zaa (cF zas (zaa (vSh 5) zal)) (zaa (b2 ixD (vC (.str "pqr")) (b2 ixD (vSh 7) (vC (.int 5)))) (zaa (vSh 8) zal))))))))))
theorem zmW {a h lo:Int} (h0:0<=a) (h1:a < lo) (hh:1<=h):1+a % h<=lo:=by
 have e:=Int.emod_add_mul_ediv a h
 have p:0<=h*(a / h):=Int.mul_nonneg (by omega) (Int.ediv_nonneg h0 (by omega))
 omega
theorem zqd {cs:List Int} {h lo c:Int} {bs:List BenchT} {ss:List StepT} {i:Nat} {y z:Option Slot} (hh:1<=h) (hlo:0 < lo/\lo < 1000) (hi:i < 10) (hb:1<=bs.length/\bs.length<=3) (bnd:(bs.map (·.nm)).Nodup) (hl:ss.length<=10) :
  ∃ s u v,zpv (tE cs bs h lo ss (oS (.int i)) (oS (.int c)) y z)=some (.nx,tE cs bs h lo (ss++[s]) (oS (.int i)) (oS (.int c)) u v)/\StepAt (bs.map (·.nm)) h lo i s:=by
 obtain ⟨ds,e,hd,hbd⟩:=zdf c (i+7) (by omega) [3,(bs.length:Int),lo,(bs.length:Int),lo,3] (by
  intro s hs
  simp only [qJ,qH,or_false] at hs
  rcases hs with rfl | rfl | rfl | rfl | rfl | rfl <;> omega) (by simp)
 obtain ⟨d0,q0,p0,_⟩:=hbd 0 3 rfl
 obtain ⟨d1,q1,p1,r1⟩:=hbd 1 _ rfl
 obtain ⟨d2,q2,p2,r2⟩:=hbd 2 _ rfl
 obtain ⟨d3,q3,p3,r3⟩:=hbd 3 _ rfl
 obtain ⟨d4,q4,p4,r4⟩:=hbd 4 _ rfl
 obtain ⟨d5,q5,p5,r5⟩:=hbd 5 3 rfl
 obtain ⟨hn,hnb⟩:=zjx (k:=i) (by omega)
 have w1:(bnm bs d1.toNat)∈bs.map (·.nm):=znV (by omega)
 have w3:(bnm bs d3.toNat)∈bs.map (·.nm):=znV (by omega)
 have bm:∀ a b:Nat,a < bs.length->b < bs.length->bnm bs a=bnm bs b->a=b:=fun a b ha hb' hab=>by
  unfold bnm at hab
  rw [List.getD_eq_getElem?_getD,List.getD_eq_getElem?_getD,qC (by simpa using ha),qC (by simpa using hb')] at hab
  exact (List.getElem_inj bnd).mp hab
 let W1:Str×Int:=(bnm bs d1.toNat,1+d2 % h)
 let W3:Str×Int:=(bnm bs d3.toNat,1+d4 % h)
 have e7:((i:Int)+7)=((i+7:Nat):Int):=by omega
 have eD:cF zai (zaa (vSh 6) (zaa (b2 zbv (vSh 5) (vC (.int 7))) (zaa (za1 (szF (zaa (vC (.int 3)) (zaa (cF zdK (zaa (vSh 1) zal)) (zaa (vSh 3) (zaa (cF zdK (zaa (vSh 1) zal)) (zaa (vSh 3) (zaa (vC (.int 3)) zal)))))))) zal))) (tE cs bs h lo ss (oS (.int i)) (oS (.int c)) y z)=some (.lst (ds.map D.int)):=by
  refine zaL (zaf (d:=.int c) rfl (zaf (d:=.int ((i:Int)+7)) (zax rfl rfl rfl) (zaf (zm4 rfl (y:=.int (bs.length:Nat)) ?_ rfl (w:=.int (bs.length:Nat)) ?_ rfl rfl) zat))) (by rw [e7];exact e) <;>
  ·refine zaL (zaf rfl zat) ?_
   show some (D.int _)=_
   rw [qg]
 have fin:∀ (ws:List (Str×Int)),GoodS (bs.map (·.nm)) h ⟨nm i,pqr d5.toNat,ws⟩->zh6 8 (zfX 4 (zbW (szF (zaa (cF zas (zaa (vSh 5) zal)) (zaa (b2 ixD (vC (.str "pqr")) (b2 ixD (vSh 7) (vC (.int 5)))) (zaa (vSh 8) zal)))))) (tE cs bs h lo ss (oS (.int i)) (oS (.int c)) (oS (.lst (ds.map D.int))) (some (.own (ws.map dW))))=some (.nx,tE cs bs h lo (ss++[⟨nm i,pqr d5.toNat,ws⟩]) (oS (.int i)) (oS (.int c)) (oS (.lst (ds.map D.int))) (oS (.lst (ws.map dW)))):=fun ws _ =>
  (zeu rfl).trans (zfm rfl (zj8 (zaL (zaf rfl zat) hn) (zax rfl (zcw rfl q5) (zmD p5 r5)) rfl) (by omega))
 have eW:∀ Z,szF (zaa (zbW (szF (zaa (b2 ixD (b2 ixD (vSh 1) (b2 ixD (vSh 7) (vC (.int 1)))) (vC (.int 0))) (zaa (b2 zbv (vC (.int 1)) (b2 zb6 (b2 ixD (vSh 7) (vC (.int 2))) (vSh 2))) zal)))) zal) (tE cs bs h lo ss (oS (.int i)) (oS (.int c)) (oS (.lst (ds.map D.int))) Z)=some ([W1].map dW):=fun Z =>
  zm5 (zcH (zlw rfl (zcw rfl q1) p1 (by omega)) (zax rfl (zax (zcw rfl q2) rfl (zcc (by omega))) rfl))
 have eT:∀ Z,zj3 (toB (b2 eqD (b2 ixD (vSh 7) (vC (.int 0))) (vC (.int 0)))) (toB (b2 neA (b2 ixD (vSh 7) (vC (.int 3))) (b2 ixD (vSh 7) (vC (.int 1))))) (tE cs bs h lo ss (oS (.int i)) (oS (.int c)) (oS (.lst (ds.map D.int))) Z)=some (decide (d0=0) && !decide (d3=d1)):=fun Z =>
  zjd (za4 (zax (zcw rfl q0) rfl rfl)) (za4 (zax (zcw rfl q3) (zcw rfl q1) rfl))
 have g1:GoodS (bs.map (·.nm)) h ⟨nm i,pqr d5.toNat,[W1]⟩:=⟨hnb,zh9 _ (by omega),by simp,by simp,fun w hw=>by
  rw [List.mem_singleton.mp hw]
  exact ⟨w1,zkm d2 hh⟩,by simp⟩
 by_cases ht:(decide (d0=0) && !decide (d3=d1))=true
 ·have hne:d3≠d1:=by
   simp only [Bool.and_eq_true,Bool.not_eq_true',decide_eq_false_iff_not] at ht
   exact ht.2
  have g2:GoodS (bs.map (·.nm)) h ⟨nm i,pqr d5.toNat,[W1]++[W3]⟩:=⟨hnb,zh9 _ (by omega),by simp,by simp,fun w hw=>by
   rcases List.mem_append.mp hw with q | q
   ·rw [List.mem_singleton.mp q];exact ⟨w1,zkm d2 hh⟩
   ·rw [List.mem_singleton.mp q];exact ⟨w3,zkm d4 hh⟩,by
   show [bnm bs d1.toNat,bnm bs d3.toNat].Nodup
   rw [List.nodup_cons]
   refine ⟨fun q=>?_,by simp⟩
   have:=bm _ _ (by omega) (by omega) (List.mem_singleton.mp q)
   omega⟩
  exact ⟨_,_,_,(zaD eD).trans ((ziC (eW z)).trans ((zbr ((zde (eT _)).trans ((qU ht).trans (zfm (x:=W3) rfl (zcH (zlw rfl (zcw rfl q3) p3 (by omega)) (zax rfl (zax (zcw rfl q4) rfl (zcc (by omega))) rfl)) (by simp))))).trans (fin _ g2))),rfl,g2,fun w hw=>by
   rcases List.mem_append.mp hw with q | q
   ·rw [List.mem_singleton.mp q];exact zmW p2 r2 hh
   ·rw [List.mem_singleton.mp q];exact zmW p4 r4 hh⟩
 ·exact ⟨_,_,_,(zaD eD).trans ((ziC (eW z)).trans ((zbr ((zde (eT _)).trans ((qV ht).trans rfl))).trans (fin _ g1))),rfl,g1,fun w hw=>by
   rw [List.mem_singleton.mp hw];exact zmW p2 r2 hh⟩
theorem zm1 (cs:List Int) (bs:List BenchT) (h lo:Int) (hh:1<=h) (hlo:0 < lo/\lo < 1000) (hl:cs.length<=10) (hb:1<=bs.length/\bs.length<=3) (bnd:(bs.map (·.nm)).Nodup):∃ ss:List StepT,zb1 [.lst (cs.map D.int),.lst (bs.map zaK),.int h,.int lo]=some (.lst (ss.map zaO))/\ss.length=cs.length/\∀ (i:Nat) s,ss[i]?=some s->StepAt (bs.map (·.nm)) h lo i s:=by
 obtain ⟨ρ',h1,ss,a,b,c,d,h2,h3,h4⟩:=zc0 (gg:=zbC 2 (zau (zaJ 5) (zau (zaJ 6) zbB))) (body:=zpv) (xs:=(cs.map D.int).mapIdx fun i d=>D.tup [.int i,d]) (ρ:=tE cs bs h lo [] none none none none)
  (fun i ρ=>∃ ss a b c d,ρ=tE cs bs h lo ss a b c d/\ss.length=i/\∀ (j:Nat) s,ss[j]?=some s->StepAt (bs.map (·.nm)) h lo j s) ⟨[],none,none,none,none,rfl,rfl,fun j b hj=>(by simp at hj)⟩ (fun i x ρ hx hI=>by
   obtain ⟨ss,a,b,c,d,rfl,hlen,hb'⟩:=hI
   obtain ⟨y,hy,rfl⟩:=zdZ hx
   rw [qm] at hy
   obtain ⟨s,hsi,rfl⟩:=oMd hy
   have hi:i < cs.length:=(List.getElem?_eq_some_iff.mp hsi).1
   obtain ⟨s',u,v,e1,e2⟩:=zqd (cs:=cs) (h:=h) (lo:=lo) (c:=s) (bs:=bs) (ss:=ss) (i:=i) (y:=c) (z:=d) hh hlo (by omega) hb bnd (by omega)
   refine ⟨_,_,rfl,e1,ss++[s'],_,_,_,_,rfl,by rw [qk,hlen];rfl,fun j b'' hj=>?_⟩
   by_cases hji:j < ss.length
   ·rw [qy hji] at hj
    exact hb' j b'' hj
   ·have hl2:=(List.getElem?_eq_some_iff.mp hj).1
    rw [qk,List.length_singleton] at hl2
    rw [qI (by omega),show j - ss.length=0 by omega] at hj
    cases hj
    rw [show j=i by omega]
    exact e2)
 rw [List.length_mapIdx,qg] at h3
 exact ⟨ss,zaR [oS (.lst (cs.map D.int)),oS (.lst (bs.map zaK)),oS (.int h),oS (.int lo),none,none,none,none,none] rfl (zfB.trans ((zbr ((zct (xs:=(cs.map D.int).mapIdx fun i d=>D.tup [.int i,d]) rfl).trans (h1.trans (by rw [h2])))).trans ((zeu rfl).trans (zaS (f:=vSh 4) rfl)))),h3,h4⟩
end Law
end
section
namespace Law
open PySem L2
theorem zf3:∀ (ns:List Str),PyData.depthAll (ns.map PyData.str)=0
 | []=>by simp [PyData.depthAll]
 | x::r=>by simp [PyData.depthAll,PyData.depth,zf3 r]
theorem zka {ns:List Str} (h:∀ x∈ns,zbG x=true):SeqAt.shaped (.list (ns.map PyData.str))=true:=by
 simp [SeqAt.shaped,PyData.canLay0,zeI h,PyData.depth,zf3]
theorem zq3 {ns:List Str} (h:∀ x∈ns,zbG x=true):neA (.lst (ns.map D.str)) (.lst [])=some (.bl (!ns.isEmpty)):=by
 have e0:neA (.lst (ns.map D.str)) (.lst [])=zs9 (.lst (ns.map D.str)) (.lst []):=rfl
 have s1:=zka h
 have s2:SeqAt.shaped (.list [])=true:=by simp [SeqAt.shaped,PyData.canLay0,PyData.canLayAll0,PyData.depth,PyData.depthAll]
 have p1:pdD (.lst (ns.map D.str))=some (.list (ns.map PyData.str)):=by simp [pdD,zg2]
 have p2:pdD (.lst [])=some (.list []):=by simp [pdD,zlL]
 have q:PyData.eqv (.list (ns.map PyData.str)) (.list [])=ns.isEmpty:=by
  cases ns <;> simp [PyData.eqv,PyData.eqvAll]
 rw [e0]
 unfold zs9 eqX
 rw [p1,p2,qc,qc,qU ⟨s1,s2⟩,q]
 rfl
abbrev jE (cs:List Int) (ss:List StepT) (h:Int) (js:List JobT) (lf:List Str) (a b c d e f:Option Slot):zaZ:=[oS (.lst (cs.map D.int)),oS (.lst (ss.map zaO)),oS (.int h),some (.own (js.map zpV)),oS (.lst (lf.map D.str)),a,b,c,d,e,f]
structure JInv (sn:List Str) (h:Int) (i:Nat) (js:List JobT) (lf:List Str):Prop where
 len:js.length<=i
 nd:(js.flatMap (·.ms)++lf).Nodup
 sub:∀ x∈js.flatMap (·.ms)++lf,x∈sn
 ll:lf.length<=sn.length
 good:∀ j∈js,GoodJ sn h j
 nmd:(js.map (·.nm)).Nodup
 nmk:∀ j∈js,∃ k,k < i/\j.nm=nm (70+k)
def zpK:FS:=(zay (zba 7 (cF zai (zaa (vSh 6) (zaa (b2 zbv (vSh 5) (vC (.int 17))) (zaa (za1 (szF (zaa (vC (.int 4)) (zaa (vC (.int 3)) (zaa (vC (.int 3)) (zaa (vC (.int 2)) (zaa (vC (.int 5)) (zaa (vC (.int 7)) zal)))))))) zal))))) (zay (zba 8 (slF (vSh 4) pN (pS (b2 ixD (vSh 7) (vC (.int 0)))))) (zay (zba 4 (slF (vSh 4) (pS (b2 ixD (vSh 7) (vC (.int 0)))) pN)) (sIf (toB (b2 neA (vSh 8) (za1 (szF zal)))) (zay (zba 9 (cF zm0 (zaa (vSh 2) (zaa (b2 zdX (b2 ixD (vSh 7) (vC (.int 1))) (cF zoT (zaa (b2 eqD (b2 ixD (vSh 7) (vC (.int 2))) (vC (.int 0))) zal))) zal)))) (zay (zba 10 (cF zr7 (zaa (vC (.int 0)) (zaa (b2 zpt (vSh 2) (b2 zdX (b2 ixD (vSh 7) (vC (.int 4))) (cF zoT (zaa (b2 eqD (b2 ixD (vSh 7) (vC (.int 2))) (vC (.int 1))) zal)))) zal)))) (zay (zba 8 (b2 zbv (slF (vSh 8) (pS (b2 zb6 (b2 ixD (vSh 7) (vC (.int 5))) (vC (.int 2)))) pN) (slF (vSh 8) pN (pS (b2 zb6 (b2 ixD (vSh 7) (vC (.int 5))) (vC (.int 2))))))) (zfX 3 (zbW (szF (zaa (cF zas (zaa (b2 zbv (vC (.int 70)) (vSh 5)) zal)) (zaa (vSh 9) (zaa (vSh 10) (zaa (b2 eqD (b2 ixD (vSh 7) (vC (.int 3))) (vC (.int 1))) (zaa (vSh 8) zal))))))))))) zbX))))
theorem zq5 {h a:Int} (hh:1<=h) (ha:0<=a):∃ m,zm0 [.int h,.int a]=some (.int m)/\0<=m/\m<=h:=by
 refine ⟨_,rfl,?_,?_⟩
 ·omega
 ·omega
theorem zq7 {h a:Int} (hh:1<=h) (ha:a<=h):∃ m,zr7 [.int 0,.int a]=some (.int m)/\0<=m/\m<=h:=by
 refine ⟨_,rfl,?_,?_⟩
 ·omega
 ·omega
theorem znq {f:FE} {ρ:zaZ} {a c:Int} (h:f ρ=some (.int a)):∃ b:Int,cF zoT (zaa (b2 eqD f (vC (.int c))) zal) ρ=some (.int b)/\0<=b/\b<=1:=by
 refine ⟨if decide (a=c)=true then 1 else 0,zaL (zaf (zax h rfl rfl) zat) rfl,?_,?_⟩ <;> split <;> decide
theorem zrh {cs:List Int} {h c:Int} {ss:List StepT} {js:List JobT} {lf:List Str} {i:Nat} {y z w v:Option Slot} (hh:1<=h) (hi:i < 3) (hs:∀ x∈ss.map (·.nm),zbG x=true) (I:JInv (ss.map (·.nm)) h i js lf) (hsl:ss.length<=40) :
  ∃ js' lf' y' z' w' v',zpK (jE cs ss h js lf (oS (.int i)) (oS (.int c)) y z w v)=some (.nx,jE cs ss h js' lf' (oS (.int i)) (oS (.int c)) y' z' w' v')/\JInv (ss.map (·.nm)) h (i+1) js' lf':=by
 obtain ⟨ds,e,hd,hbd⟩:=zdf c (i+17) (by omega) [4,3,3,2,5,7] (by decide) (by decide)
 obtain ⟨d0,q0,p0,r0⟩:=hbd 0 4 rfl
 obtain ⟨d1,q1,p1,_⟩:=hbd 1 3 rfl
 obtain ⟨d2,q2,p2,_⟩:=hbd 2 3 rfl
 obtain ⟨d3,q3,p3,_⟩:=hbd 3 2 rfl
 obtain ⟨d4,q4,p4,_⟩:=hbd 4 5 rfl
 obtain ⟨d5,q5,p5,_⟩:=hbd 5 7 rfl
 have hn:=(zjx (k:=70+i) (by omega)).1
 have hnb:=(zjx (k:=70+i) (by omega)).2
 have hn':zas [.int (70+(i:Int))]=some (.str (nm (70+i))):=by rw [← hn];congr 2
 have e17:((i:Int)+17)=((i+17:Nat):Int):=by omega
 generalize hsm:lf.take d0.toNat=sm
 generalize hlf:lf.drop d0.toNat=lf'
 have hlf2:lf=sm++lf':=by rw [← hsm,← hlf,List.take_append_drop]
 have hslen:sm.length<=3:=by rw [← hsm,qD];omega
 have hsml:sm.length+lf'.length=lf.length:=by rw [hlf2,qk]
 have hsn:∀ x∈sm,zbG x=true:=fun x hx=>hs x (I.sub x (qO _ (by rw [hlf2];exact List.mem_append_left _ hx)))
 have eD:cF zai (zaa (vSh 6) (zaa (b2 zbv (vSh 5) (vC (.int 17))) (zaa (za1 (szF (zaa (vC (.int 4)) (zaa (vC (.int 3)) (zaa (vC (.int 3)) (zaa (vC (.int 2)) (zaa (vC (.int 5)) (zaa (vC (.int 7)) zal)))))))) zal))) (jE cs ss h js lf (oS (.int i)) (oS (.int c)) y z w v)=some (.lst (ds.map D.int)) :=
  zaL (zaf (d:=.int c) rfl (zaf (d:=.int ((i:Int)+17)) (zax rfl rfl rfl) (zaf (zm4 rfl rfl rfl rfl rfl rfl) zat))) (by rw [e17];exact e)
 have e8:slF (vSh 4) pN (pS (b2 ixD (vSh 7) (vC (.int 0)))) (jE cs ss h js lf (oS (.int i)) (oS (.int c)) (oS (.lst (ds.map D.int))) z w v)=some (.lst (sm.map D.str)):=by
  rw [← hsm,List.map_take]
  exact zoj rfl (zcw rfl q0) p0
 have e4:slF (vSh 4) (pS (b2 ixD (vSh 7) (vC (.int 0)))) pN (jE cs ss h js lf (oS (.int i)) (oS (.int c)) (oS (.lst (ds.map D.int))) (oS (.lst (sm.map D.str))) w v)=some (.lst (lf'.map D.str)):=by
  rw [← hlf,List.map_drop]
  exact zqg rfl (zcw rfl q0) p0
 have eT:toB (b2 neA (vSh 8) (za1 (szF zal))) (jE cs ss h js lf' (oS (.int i)) (oS (.int c)) (oS (.lst (ds.map D.int))) (oS (.lst (sm.map D.str))) w v)=some (!sm.isEmpty):=za4 (zax rfl (y:=.lst []) rfl (zq3 hsn))
 by_cases hem:sm.isEmpty=true
 ·have hsm0:sm=[]:=List.isEmpty_iff.mp hem
  rw [hem] at eT
  refine ⟨js,lf',_,_,_,_,(zaD eD).trans ((zaD e8).trans ((zaD e4).trans ((zde eT).trans rfl))),⟨by have:=I.len;omega,?_,?_,by have:=I.ll;omega,I.good,I.nmd,fun j hj=>?_⟩⟩
  ·have:=I.nd;rw [hlf2,hsm0] at this;exact this
  ·have:=I.sub;rw [hlf2,hsm0] at this;exact this
  ·obtain ⟨k,h1,h2⟩:=I.nmk j hj
   exact ⟨k,by omega,h2⟩
 ·have hem':sm.isEmpty=false:=by simpa using hem
  rw [hem'] at eT
  have hs1:1<=sm.length:=by
   cases sm with
   | nil=>simp at hem
   | cons a b=>simp
  obtain ⟨b1,f1,f2,f3⟩:=znq (c:=0) (f:=b2 ixD (vSh 7) (vC (.int 2))) (ρ:=jE cs ss h js lf' (oS (.int i)) (oS (.int c)) (oS (.lst (ds.map D.int))) (oS (.lst (sm.map D.str))) w v) (zcw rfl q2)
  obtain ⟨ea,m1,m2,m3⟩:=zq5 (h:=h) (a:=d1*b1) hh (Int.mul_nonneg p1 f2)
  have e9:cF zm0 (zaa (vSh 2) (zaa (b2 zdX (b2 ixD (vSh 7) (vC (.int 1))) (cF zoT (zaa (b2 eqD (b2 ixD (vSh 7) (vC (.int 2))) (vC (.int 0))) zal))) zal)) (jE cs ss h js lf' (oS (.int i)) (oS (.int c)) (oS (.lst (ds.map D.int))) (oS (.lst (sm.map D.str))) w v)=some (.int ea) :=
   zaL (zaf rfl (zaf (zax (zcw rfl q1) f1 (zgl (.inr (by omega)))) zat)) m1
  obtain ⟨b2',f4,f5,f6⟩:=znq (c:=1) (f:=b2 ixD (vSh 7) (vC (.int 2))) (ρ:=jE cs ss h js lf' (oS (.int i)) (oS (.int c)) (oS (.lst (ds.map D.int))) (oS (.lst (sm.map D.str))) (oS (.int ea)) v) (zcw rfl q2)
  obtain ⟨du,n1,n2,n3⟩:=zq7 (h:=h) (a:=h - d4*b2') hh (by have:=Int.mul_nonneg p4 f5;omega)
  have e10:cF zr7 (zaa (vC (.int 0)) (zaa (b2 zpt (vSh 2) (b2 zdX (b2 ixD (vSh 7) (vC (.int 4))) (cF zoT (zaa (b2 eqD (b2 ixD (vSh 7) (vC (.int 2))) (vC (.int 1))) zal)))) zal)) (jE cs ss h js lf' (oS (.int i)) (oS (.int c)) (oS (.lst (ds.map D.int))) (oS (.lst (sm.map D.str))) (oS (.int ea)) v)=some (.int du) :=
   zaL (zaf rfl (zaf (zax rfl (zax (zcw rfl q4) f4 (zgl (.inr (by omega)))) rfl) zat)) n1
  have t0:0<=d5 % 2:=qT _ (by decide)
  generalize htt:(d5 % 2).toNat=t
  have hrl:(sm.drop t++sm.take t).length=sm.length:=by rw [qk,List.length_drop,qD];omega
  have e8':b2 zbv (slF (vSh 8) (pS (b2 zb6 (b2 ixD (vSh 7) (vC (.int 5))) (vC (.int 2)))) pN) (slF (vSh 8) pN (pS (b2 zb6 (b2 ixD (vSh 7) (vC (.int 5))) (vC (.int 2))))) (jE cs ss h js lf' (oS (.int i)) (oS (.int c)) (oS (.lst (ds.map D.int))) (oS (.lst (sm.map D.str))) (oS (.int ea)) (oS (.int du)))=some (.lst ((sm.drop t++sm.take t).map D.str)):=by
   refine zax (zqg rfl (zax (zcw rfl q5) rfl (zcc (by decide))) t0) (zoj rfl (zax (zcw rfl q5) rfl (zcc (by decide))) t0) ?_
   show (if _ then _ else _)=_
   rw [qU,htt,List.map_append,List.map_drop,List.map_take]
   rw [List.length_drop,qD,qg];unfold sizeLine;omega
  let J:JobT:=⟨nm (70+i),ea,du,decide (d3=1),sm.drop t++sm.take t⟩
  have perm:(sm.drop t++sm.take t).Perm sm:=(List.perm_append_comm).trans (by rw [List.take_append_drop])
  have pa:((js++[J]).flatMap (·.ms)++lf').Perm (js.flatMap (·.ms)++lf):=by
   rw [List.flatMap_append,hlf2,List.append_assoc]
   refine List.Perm.append_left _ ?_
   rw [List.flatMap_singleton]
   exact List.Perm.append_right _ perm
  refine ⟨js++[J],lf',_,_,_,_,(zaD eD).trans ((zaD e8).trans ((zaD e4).trans ((zde eT).trans ((qU rfl).trans ((zaD e9).trans ((zaD e10).trans ((zaD e8').trans (zfm rfl (zmh (zaL (zaf (zax rfl rfl rfl) zat) hn') rfl rfl (zax (zcw rfl q3) rfl rfl) rfl) (by have:=I.len;omega))))))))),⟨?_,?_,?_,?_,?_,?_,?_⟩⟩
  ·rw [qk];have:=I.len;simp;omega
  ·exact (pa.nodup_iff).mpr I.nd
  ·exact fun x hx=>I.sub x (pa.mem_iff.mp hx)
  ·have:=I.ll;omega
  ·intro j hj
   rcases List.mem_append.mp hj with q | q
   ·exact I.good j q
   ·rw [List.mem_singleton.mp q]
    refine ⟨hnb,⟨m2,m3⟩,⟨n2,n3⟩,by show 1<=(sm.drop t++sm.take t).length;omega,by show (sm.drop t++sm.take t).length<=_;have:=I.ll;omega,fun m hm=>?_⟩
    exact I.sub m (qO _ (by rw [hlf2];exact List.mem_append_left _ (perm.mem_iff.mp hm)))
  ·rw [List.map_append,List.nodup_append]
   refine ⟨I.nmd,by simp,fun a ha b hb hab=>?_⟩
   obtain ⟨j,hj,rfl⟩:=List.mem_map.mp ha
   obtain ⟨k,hk,hk2⟩:=I.nmk j hj
   have hb':b=nm (70+i):=by simpa using hb
   have:=zqZ k (by omega) i hi (hk2.symm.trans (hab.trans hb'))
   omega
  ·intro j hj
   rcases List.mem_append.mp hj with q | q
   ·obtain ⟨k,h1,h2⟩:=I.nmk j q
    exact ⟨k,by omega,h2⟩
   ·rw [List.mem_singleton.mp q];exact ⟨i,by omega,rfl⟩
theorem zoM (cs:List Int) (ss:List StepT) (h:Int) (hh:1<=h) (hl:cs.length<=3) (hsl:ss.length<=40) (hs:∀ x∈ss.map (·.nm),zbG x=true) (snd:(ss.map (·.nm)).Nodup):∃ js:List JobT,zck [.lst (cs.map D.int),.lst (ss.map zaO),.int h]=some (.lst (js.map zpV))/\js.length<=3/\(∀ j∈js,GoodJ (ss.map (·.nm)) h j)/\(js.map (·.nm)).Nodup/\(js.flatMap (·.ms)).Nodup:=by
 obtain ⟨ρ',h1,js,lf,a,b,c,d,e,f,h2,h3⟩:=zc0 (gg:=zbC 2 (zau (zaJ 5) (zau (zaJ 6) zbB))) (body:=zpK) (xs:=(cs.map D.int).mapIdx fun i d=>D.tup [.int i,d]) (ρ:=jE cs ss h [] (ss.map (·.nm)) none none none none none none)
  (fun i ρ=>∃ js lf a b c d e f,ρ=jE cs ss h js lf a b c d e f/\JInv (ss.map (·.nm)) h i js lf) ⟨[],ss.map (·.nm),none,none,none,none,none,none,rfl,⟨qw _,by simpa using snd,fun x hx=>(by simpa using hx),qw _,fun j hj=>(by cases hj),by simp,fun j hj=>(by cases hj)⟩⟩ (fun i x ρ hx hI=>by
   obtain ⟨js,lf,a,b,c,d,e,f,rfl,I⟩:=hI
   obtain ⟨y,hy,rfl⟩:=zdZ hx
   rw [qm] at hy
   obtain ⟨s,hsi,rfl⟩:=oMd hy
   have hi:i < cs.length:=(List.getElem?_eq_some_iff.mp hsi).1
   obtain ⟨js',lf',y',z',w',v',e1,e2⟩:=zrh (cs:=cs) (h:=h) (c:=s) (ss:=ss) (js:=js) (lf:=lf) (i:=i) (y:=c) (z:=d) (w:=e) (v:=f) hh (by omega) hs I hsl
   exact ⟨_,_,rfl,e1,js',lf',_,_,_,_,_,_,rfl,e2⟩)
 rw [List.length_mapIdx,qg] at h3
 have nn:=zeG (i:=1) (fv:=[none]) (ρ:=[oS (.lst (cs.map D.int)),oS (.lst (ss.map zaO)),oS (.int h),some (.own []),none,none,none,none,none,none,none]) (f:=zaO) (nm:=(·.nm)) (xs:=ss) (fun x=>⟨_,rfl⟩) rfl (szN hsl (by decide)) rfl
 refine ⟨js,zaR [oS (.lst (cs.map D.int)),oS (.lst (ss.map zaO)),oS (.int h),none,none,none,none,none,none,none,none] rfl (zfB.trans ((zaD nn).trans ((zbr ((zct (xs:=(cs.map D.int).mapIdx fun i d=>D.tup [.int i,d]) rfl).trans (h1.trans (by rw [h2])))).trans ((zeu rfl).trans (zaS (f:=vSh 3) rfl))))),qK h3.len hl,h3.good,h3.nmd,?_⟩
 exact (List.nodup_append.mp h3.nd).1
end Law
end
section
namespace Law
open PySem L2
theorem zpF (t:List Str):pdD (.tup (t.map D.str))=some (.tuple (t.map PyData.str)):=by simp [pdD,zg2]
theorem zmH:∀ (ts:List (List Str)),zlL (ts.map fun t=>.tup (t.map D.str))=some (ts.map fun t=>.tuple (t.map PyData.str))
 | []=>by simp [zlL]
 | t::r=>by simp [zlL,zpF,zmH r]
theorem zlf:∀ {ts:List (List Str)},(∀ t∈ts,∀ x∈t,zbG x=true)->PyData.canLayAll0 (ts.map fun t=>.tuple (t.map PyData.str))=true
 | [],_=>by simp [PyData.canLayAll0]
 | t::r,h=>by
  simp only [qp,PyData.canLayAll0,PyData.canLay0,zeI (h t qh),Bool.true_and]
  exact zlf fun y hy=>h y (qi _ hy)
theorem zln:∀ (a b:List Str),PyData.eqvAll (a.map PyData.str) (b.map PyData.str)=decide (a=b)
 | [],[]=>by simp [PyData.eqvAll]
 | [],_::_=>by simp [PyData.eqvAll]
 | _::_,[]=>by simp [PyData.eqvAll]
 | x::r,y::t=>by
  simp only [qp,PyData.eqvAll,PyData.eqv,zln r t]
  by_cases e:x=y
  ·subst e;simp
  ·simp [e]
theorem zly (t:List Str):∀ (ts:List (List Str)),((ts.map fun t=>PyData.tuple (t.map PyData.str)).any fun z=>PyData.eqv z (.tuple (t.map PyData.str)))=decide (t∈ts)
 | []=>by simp
 | y::r=>by
  rw [qp,List.any_cons,zly t r]
  simp only [PyData.eqv,zln]
  by_cases e:y=t
  ·subst e;simp
  ·have:t≠y:=fun z=>e z.symm
   simp [e,this]
theorem zk9 {t:List Str} {ts:List (List Str)} (hx:∀ x∈t,zbG x=true) (hn:∀ y∈ts,∀ x∈y,zbG x=true):zff (.tup (t.map D.str)) (.lst (ts.map fun t=>.tup (t.map D.str)))=some (.bl (!decide (t∈ts))):=by
 have sh:SeqAt.shaped (.tuple (t.map PyData.str))=true:=by simp [SeqAt.shaped,PyData.canLay0,zeI hx,PyData.depth,zf3]
 have p1:pdD (.lst (ts.map fun t=>.tup (t.map D.str)))=some (.list (ts.map fun t=>.tuple (t.map PyData.str))):=by simp [pdD,zmH]
 unfold zff inX
 rw [zpF,p1,qc,qc]
 simp only [sh,zlf hn,and_self,if_true,zly,qf]
theorem zmv {α:Type} {f:α->D} {nm:α->Str} {xs:List α} {ρ:zaZ} {fo g:FE} {d:Int} (hf:∀ x,∃ r,f x=.tup (.str (nm x)::r)) (h1:fo ρ=some (.lst (xs.map f))) (h2:g ρ=some (.int d)) (h3:0<=d) (h4:d < xs.length):∃ x∈xs,b2 ixD (b2 ixD fo g) (vC (.int 0)) ρ=some (.str (nm x)):=by
 obtain ⟨n,rfl⟩:=Int.eq_ofNat_of_zero_le h3
 have hd:n < xs.length:=by omega
 refine ⟨xs[n],List.getElem_mem hd,zax (zax h1 h2 (show ixD _ (.int (n:Int))=some (f xs[n]) by rw [ixL,qm,qC hd];rfl)) rfl ?_⟩
 obtain ⟨r,e⟩:=hf xs[n]
 rw [e,zma]
theorem zuD {f g:FE} {ρ:zaZ} {ds:List Int} {n:Nat} {m d:Int} (h1:f ρ=some (.lst (ds.map D.int))) (h2:g ρ=some (.int m)) (hm:m=(n:Int)) (h3:ds[n]?=some d):b2 ixD f g ρ=some (.int d) :=
 zax h1 h2 (by rw [hm,ixL,qm,h3];rfl)
theorem zm9 {f:FE} {ρ:zaZ} {l:List D} (h:f ρ=some (.lst l)):cF zdK (zaa f zal) ρ=some (.int (l.length:Nat)):=zaL (zaf h zat) rfl
theorem ztP {i:Nat} {ft:FT} {ρ:zaZ} {ds:List D} {b:Bool} (h1:ρ[i]?=some (some (.own ds))) (h2:ft (ρ.set i (oS (.lst ds)))=some b):bwT i ft ρ=some b:=by
 unfold bwT;rw [h1];exact h2
theorem zlb {x:List D} {j:Int} (h : -(2 ^ 63)<=j/\j < 2 ^ 63/\x.length*j.toNat<=sizeLine):zdX (.lst x) (.int j)=some (.lst (List.replicate j.toNat x).flatten):=qU h
theorem zuz:zdX (.lst [.int 4]) (.int 6)=some (.lst (([4,4,4,4,4,4]:List Int).map D.int)):=zlb (x:=[.int 4]) (j:=6) (by decide)
structure UInv (bn:List Str) (h:Int) (i:Nat) (us:List SetT):Prop where
 len:us.length<=i
 good:∀ u∈us,GoodU bn h u
 nd:(us.map fun u=>[u.b,u.p,u.q]).Nodup
abbrev uE (c:Int) (bs:List BenchT) (h:Int) (us:List SetT) (a b d e:Option Slot):zaZ:=[oS (.int c),oS (.lst (bs.map zaK)),oS (.int h),some (.own (us.map zjO)),a,b,d,e]
def zpu:FS:=(zay (zba 6 (b2 ixD (b2 ixD (vSh 1) (b2 zb6 (vSh 4) (cF zdK (zaa (vSh 1) zal)))) (vC (.int 0)))) (zay (zba 7 (zbW (szF (zaa (vSh 6) (zaa (b2 ixD (vC (.str "pqr")) (b2 zb6 (vSh 4) (vC (.int 3)))) (zaa (b2 ixD (vC (.str "pqr")) (b2 zb6 (b2 zbv (vSh 4) (vSh 5)) (vC (.int 3)))) (zaa (cF zm0 (zaa (vSh 2) (zaa (vSh 5) zal))) zal))))))) (sIf (bwT 3 (zj3 (toB (b2 gtD (vSh 5) (vC (.int 0)))) (toB (b2 zff (slF (vSh 7) pN (pS (vC (.int 3)))) (za1 (zaP (itF (vSh 3)) (zaJ 0) tT (slF (vSh 0) pN (pS (vC (.int 3)))) [none])))))) (zfX 3 (vSh 7)) zbX)))
theorem zqa {c h m:Int} {bs:List BenchT} {us:List SetT} {i:Nat} {y z:Option Slot} (hh:1<=h) (hm:0<=m) (hi:i < 6) (hb:1<=bs.length) (hbn:∀ x∈bs.map (·.nm),zbG x=true) (I:UInv (bs.map (·.nm)) h i us) :
  ∃ us' y' z',zpu (uE c bs h us (oS (.int i)) (oS (.int m)) y z)=some (.nx,uE c bs h us' (oS (.int i)) (oS (.int m)) y' z')/\UInv (bs.map (·.nm)) h (i+1) us':=by
 have k0:0<=(i:Int) % (bs.length:Nat):=qT _ (by omega)
 have k1:(i:Int) % (bs.length:Nat) < (bs.length:Nat):=qR _ (by omega)
 obtain ⟨b,hbm,e6⟩:=zmv (f:=zaK) (nm:=(·.nm)) (xs:=bs) (ρ:=uE c bs h us (oS (.int i)) (oS (.int m)) y z) (fo:=vSh 1) (g:=b2 zb6 (vSh 4) (cF zdK (zaa (vSh 1) zal))) (d:=(i:Int) % (bs.length:Nat)) (fun x=>⟨_,rfl⟩) rfl (zax rfl (zm9 rfl) (by rw [qg];exact zcc (by omega))) k0 k1
 have t0:0<=(i:Int) % 3:=qT _ (by decide)
 have t1:(i:Int) % 3 < 3:=qR _ (by decide)
 have s0:0<=((i:Int)+m) % 3:=qT _ (by decide)
 have s1:((i:Int)+m) % 3 < 3:=qR _ (by decide)
 let U:SetT:=⟨b.nm,pqr ((i:Int) % 3).toNat,pqr (((i:Int)+m) % 3).toNat,if m < h then m else h⟩
 have e7:zbW (szF (zaa (vSh 6) (zaa (b2 ixD (vC (.str "pqr")) (b2 zb6 (vSh 4) (vC (.int 3)))) (zaa (b2 ixD (vC (.str "pqr")) (b2 zb6 (b2 zbv (vSh 4) (vSh 5)) (vC (.int 3)))) (zaa (cF zm0 (zaa (vSh 2) (zaa (vSh 5) zal))) zal))))) (uE c bs h us (oS (.int i)) (oS (.int m)) (oS (.str b.nm)) z)=some (zjO U) :=
  zp7 rfl (zax rfl (zax rfl rfl (zcc (by decide))) (zmD t0 t1)) (zax rfl (zax (zax rfl rfl rfl) rfl (zcc (by decide))) (zmD s0 s1)) (zaL (zaf rfl (zaf rfl zat)) rfl)
 have nU:∀ x∈[U.b,U.p,U.q],zbG x=true:=fun x hx=>by
  simp only [qJ,qH,or_false] at hx
  rcases hx with rfl | rfl | rfl
  ·exact hbn _ (qS hbm)
  ·exact zh9 _ (by omega)
  ·exact zh9 _ (by omega)
 have nA:∀ y∈us.map (fun u=>[u.b,u.p,u.q]),∀ x∈y,zbG x=true:=fun y hy x hx=>by
  obtain ⟨u,hu,rfl⟩:=List.mem_map.mp hy
  have g:=I.good u hu
  simp only [qJ,qH,or_false] at hx
  rcases hx with rfl | rfl | rfl
  ·exact hbn _ g.b
  ·exact g.p
  ·exact g.q
 have hul:us.length<=6:=qK I.len (by omega)
 have eL:za1 (zaP (itF (vSh 3)) (zaJ 0) tT (slF (vSh 0) pN (pS (vC (.int 3)))) [none]) [oS (.int c),oS (.lst (bs.map zaK)),oS (.int h),oS (.lst (us.map zjO)),oS (.int i),oS (.int m),oS (.str b.nm),oS (zjO U)]=some (.lst ((us.map fun u=>[u.b,u.p,u.q]).map fun t=>.tup (t.map D.str))):=by
  rw [qq]
  refine (zb7 (r:=[]) (a:=none) (xs:=us.map zjO) (f:=fun d=>match d with | .tup [a,b,c,d]=>.tup [a,b,c] | _=>.non) rfl (by rw [qg];exact szN hul (by decide)) rfl fun x hx=>?_).trans ?_
  ·obtain ⟨p,hp,rfl⟩:=List.mem_map.mp hx
   simp only [vSh,vC,slF,pN,pS,qd,qc,zjO,zvj]
  ·rw [qq];rfl
 have eT:bwT 3 (zj3 (toB (b2 gtD (vSh 5) (vC (.int 0)))) (toB (b2 zff (slF (vSh 7) pN (pS (vC (.int 3)))) (za1 (zaP (itF (vSh 3)) (zaJ 0) tT (slF (vSh 0) pN (pS (vC (.int 3)))) [none]))))) (uE c bs h us (oS (.int i)) (oS (.int m)) (oS (.str b.nm)) (oS (zjO U)))=some (decide (0 < m) && !decide ([U.b,U.p,U.q]∈us.map fun u=>[u.b,u.p,u.q])) :=
  ztP rfl (zjd (za4 (zax rfl rfl rfl)) (za4 (zax (x:=.tup ([U.b,U.p,U.q].map D.str)) rfl eL (zk9 nU nA))))
 by_cases ht:(decide (0 < m) && !decide ([U.b,U.p,U.q]∈us.map fun u=>[u.b,u.p,u.q]))=true
 ·have hq:0 < m/\[U.b,U.p,U.q]∉us.map fun u=>[u.b,u.p,u.q]:=by simpa using ht
  refine ⟨us++[U],_,_,(zaD e6).trans ((zaD e7).trans ((zde eT).trans ((qU ht).trans (zfm (x:=U) rfl rfl (by omega))))),⟨?_,?_,?_⟩⟩
  ·rw [qk];have:=I.len;simp;omega
  ·intro u hu
   rcases List.mem_append.mp hu with q | q
   ·exact I.good u q
   ·rw [List.mem_singleton.mp q]
    refine ⟨qS hbm,zh9 _ (by omega),zh9 _ (by omega),?_,?_⟩
    ·show 1<=if m < h then m else h
     split <;> omega
    ·show (if m < h then m else h)<=h
     split <;> omega
  ·rw [List.map_append,List.nodup_append]
   refine ⟨I.nd,by simp,fun a ha b' hb' hab=>?_⟩
   have:b'=[U.b,U.p,U.q]:=by simpa using hb'
   rw [hab,this] at ha
   exact hq.2 ha
 ·exact ⟨us,_,_,(zaD e6).trans ((zaD e7).trans ((zde eT).trans ((qV ht).trans rfl))),⟨by have:=I.len;omega,I.good,I.nd⟩⟩
theorem zlS (c:Int) (bs:List BenchT) (h:Int) (hh:1<=h) (hb:1<=bs.length) (hbn:∀ x∈bs.map (·.nm),zbG x=true):∃ us:List SetT,zbP [.int c,.lst (bs.map zaK),.int h]=some (.lst (us.map zjO))/\us.length<=6/\(∀ u∈us,GoodU (bs.map (·.nm)) h u)/\(us.map fun u=>[u.b,u.p,u.q]).Nodup:=by
 obtain ⟨ds,e,hd,hbd⟩:=zdf c 3 (by omega) [4,4,4,4,4,4] (by decide) (by decide)
 have eM:b2 zdX (za1 (szF (zaa (vC (.int 4)) zal))) (vC (.int 6)) (uE c bs h [] none none none none)=some (.lst (([4,4,4,4,4,4]:List Int).map D.int)) :=
  zax (x:=.lst [.int 4]) (y:=.int 6) rfl rfl zuz
 have hd6:ds.length=6:=hd
 obtain ⟨ρ',h1,us,a,b,d,f,h2,h3⟩:=zc0 (gg:=zbC 2 (zau (zaJ 4) (zau (zaJ 5) zbB))) (body:=zpu) (xs:=(ds.map D.int).mapIdx fun i d=>D.tup [.int i,d]) (ρ:=uE c bs h [] none none none none)
  (fun i ρ=>∃ us a b d e,ρ=uE c bs h us a b d e/\UInv (bs.map (·.nm)) h i us) ⟨[],none,none,none,none,rfl,⟨qw _,fun j hj=>(by cases hj),by simp⟩⟩ (fun i x ρ hx hI=>by
   obtain ⟨us,a,b,d,e,rfl,I⟩:=hI
   obtain ⟨y,hy,rfl⟩:=zdZ hx
   rw [qm] at hy
   obtain ⟨s,hsi,rfl⟩:=oMd hy
   have hi:i < ds.length:=(List.getElem?_eq_some_iff.mp hsi).1
   have hs0:0<=s:=by
    have h6:i < 6:=by omega
    have:([4,4,4,4,4,4]:List Int)[i]?=some 4:=by
     have:i=0\/i=1\/i=2\/i=3\/i=4\/i=5:=by omega
     rcases this with rfl | rfl | rfl | rfl | rfl | rfl <;> rfl
    obtain ⟨d,q1,q2,_⟩:=hbd i 4 this
    rw [hsi] at q1
    cases q1
    exact q2
   obtain ⟨us',y',z',e1,e2⟩:=zqa (c:=c) (h:=h) (m:=s) (bs:=bs) (us:=us) (i:=i) (y:=d) (z:=e) hh hs0 (by omega) hb hbn I
   exact ⟨_,_,rfl,e1,us',_,_,_,_,rfl,e2⟩)
 rw [List.length_mapIdx,qg] at h3
 have eI:itE (cF zai (zaa (vSh 0) (zaa (vC (.int 3)) (zaa (b2 zdX (za1 (szF (zaa (vC (.int 4)) zal))) (vC (.int 6))) zal)))) (uE c bs h [] none none none none)=some ((ds.map D.int).mapIdx fun i d=>D.tup [.int i,d]):=by
  have:cF zai (zaa (vSh 0) (zaa (vC (.int 3)) (zaa (b2 zdX (za1 (szF (zaa (vC (.int 4)) zal))) (vC (.int 6))) zal))) (uE c bs h [] none none none none)=some (.lst (ds.map D.int)):=zaL (zaf rfl (zaf rfl (zaf eM zat))) e
  unfold itE
  rw [this];rfl
 exact ⟨us,zaR [oS (.int c),oS (.lst (bs.map zaK)),oS (.int h),none,none,none,none,none] rfl (zfB.trans ((zbr ((zct eI).trans (h1.trans (by rw [h2])))).trans ((zeu rfl).trans (zaS (f:=vSh 3) rfl)))),by have:=h3.len;omega,h3.good,h3.nd⟩
structure LInv (sn:List Str) (h:Int) (i:Nat) (ls:List LinkT):Prop where
 len:ls.length<=i
 good:∀ l∈ls,GoodL sn h l
 nd:(ls.map fun l=>[l.a,l.b]).Nodup
abbrev lE (c:Int) (ss:List StepT) (h:Int) (ls:List LinkT) (ds:List Int) (a b d:Option Slot):zaZ:=[oS (.int c),oS (.lst (ss.map zaO)),oS (.int h),some (.own (ls.map zhP)),oS (.lst (ds.map D.int)),a,b,d]
def zpH:FS:=(zay (zba 6 (b2 ixD (b2 ixD (vSh 1) (b2 zb6 (b2 ixD (vSh 4) (b2 zbv (vC (.int 1)) (b2 zdX (vC (.int 3)) (vSh 5)))) (cF zdK (zaa (vSh 1) zal)))) (vC (.int 0)))) (zay (zba 7 (b2 ixD (b2 ixD (vSh 1) (b2 zb6 (b2 ixD (vSh 4) (b2 zbv (vC (.int 2)) (b2 zdX (vC (.int 3)) (vSh 5)))) (cF zdK (zaa (vSh 1) zal)))) (vC (.int 0)))) (sIf (bwT 3 (zj3 (toB (b2 neA (vSh 6) (vSh 7))) (toB (b2 zff (zbW (szF (zaa (vSh 6) (zaa (vSh 7) zal)))) (za1 (zaP (itF (vSh 3)) (zaJ 0) tT (slF (vSh 0) pN (pS (vC (.int 2)))) [none])))))) (zfX 3 (zbW (szF (zaa (vSh 6) (zaa (vSh 7) (zaa (cF zm0 (zaa (vSh 2) (zaa (b2 ixD (vSh 4) (b2 zbv (vC (.int 3)) (b2 zdX (vC (.int 3)) (vSh 5)))) zal))) zal)))))) zbX)))
theorem zrd {c h:Int} {ss:List StepT} {ls:List LinkT} {ds:List Int} {i:Nat} {y z:Option Slot} (hh:1<=h) (hi:i < 2) (hs1:1<=ss.length) (hsn:∀ x∈ss.map (·.nm),zbG x=true) (hds:∀ j,j < 7->∃ d,ds[j]?=some d/\0<=d) (I:LInv (ss.map (·.nm)) h i ls) :
  ∃ ls' y' z',zpH (lE c ss h ls ds (oS (.int (0+(i:Int)))) y z)=some (.nx,lE c ss h ls' ds (oS (.int (0+(i:Int)))) y' z')/\LInv (ss.map (·.nm)) h (i+1) ls':=by
 obtain ⟨x1,q1,p1⟩:=hds (1+3*i) (by omega)
 obtain ⟨x2,q2,p2⟩:=hds (2+3*i) (by omega)
 obtain ⟨x3,q3,p3⟩:=hds (3+3*i) (by omega)
 have ixs:∀ (n:Nat) (y z:Option Slot) (lst:List D) (x:Int) (k:Int),k=(n:Int)->ds[n+3*i]?=some x->∀ s3:Option Slot,b2 ixD (vSh 4) (b2 zbv (vC (.int k)) (b2 zdX (vC (.int 3)) (vSh 5))) [oS (.int c),oS (.lst (ss.map zaO)),oS (.int h),s3,oS (.lst (ds.map D.int)),oS (.int (0+(i:Int))),y,z]=some (.int x):=fun n y z _ x k hk hx s3 =>
  zuD (n:=n+3*i) rfl (zax rfl (zax rfl rfl (zgl (.inl (by decide)))) rfl) (by omega) hx
 have m1:∀ x:Int,0<=x % (ss.length:Nat)/\x % (ss.length:Nat) < (ss.length:Nat):=fun x=>⟨qT _ (by omega),qR _ (by omega)⟩
 obtain ⟨sa,ha,e6⟩:=zmv (f:=zaO) (nm:=(·.nm)) (xs:=ss) (ρ:=lE c ss h ls ds (oS (.int (0+(i:Int)))) y z) (fo:=vSh 1) (g:=b2 zb6 (b2 ixD (vSh 4) (b2 zbv (vC (.int 1)) (b2 zdX (vC (.int 3)) (vSh 5)))) (cF zdK (zaa (vSh 1) zal))) (d:=x1 % (ss.length:Nat)) (fun x=>⟨_,rfl⟩) rfl (zax (ixs 1 y z [] x1 1 rfl q1 _) (zm9 rfl) (by rw [qg];exact zcc (by omega))) (m1 x1).1 (m1 x1).2
 obtain ⟨sb,hb,e7⟩:=zmv (f:=zaO) (nm:=(·.nm)) (xs:=ss) (ρ:=lE c ss h ls ds (oS (.int (0+(i:Int)))) (oS (.str sa.nm)) z) (fo:=vSh 1) (g:=b2 zb6 (b2 ixD (vSh 4) (b2 zbv (vC (.int 2)) (b2 zdX (vC (.int 3)) (vSh 5)))) (cF zdK (zaa (vSh 1) zal))) (d:=x2 % (ss.length:Nat)) (fun x=>⟨_,rfl⟩) rfl (zax (ixs 2 _ z [] x2 2 rfl q2 _) (zm9 rfl) (by rw [qg];exact zcc (by omega))) (m1 x2).1 (m1 x2).2
 let U:LinkT:=⟨sa.nm,sb.nm,if x3 < h then x3 else h⟩
 have nU:∀ x∈[U.a,U.b],zbG x=true:=fun x hx=>by
  simp only [qJ,qH,or_false] at hx
  rcases hx with rfl | rfl
  ·exact hsn _ (qS ha)
  ·exact hsn _ (qS hb)
 have nA:∀ y∈ls.map (fun l=>[l.a,l.b]),∀ x∈y,zbG x=true:=fun y hy x hx=>by
  obtain ⟨u,hu,rfl⟩:=List.mem_map.mp hy
  have g:=I.good u hu
  simp only [qJ,qH,or_false] at hx
  rcases hx with rfl | rfl
  ·exact hsn _ g.a
  ·exact hsn _ g.b
 have hul:ls.length<=2:=qK I.len (by omega)
 have eL:za1 (zaP (itF (vSh 3)) (zaJ 0) tT (slF (vSh 0) pN (pS (vC (.int 2)))) [none]) [oS (.int c),oS (.lst (ss.map zaO)),oS (.int h),oS (.lst (ls.map zhP)),oS (.lst (ds.map D.int)),oS (.int (0+(i:Int))),oS (.str sa.nm),oS (.str sb.nm)]=some (.lst ((ls.map fun l=>[l.a,l.b]).map fun t=>.tup (t.map D.str))):=by
  rw [qq]
  refine (zb7 (r:=[]) (a:=none) (xs:=ls.map zhP) (f:=fun d=>match d with | .tup [a,b,c]=>.tup [a,b] | _=>.non) rfl (by rw [qg];exact szN hul (by decide)) rfl fun x hx=>?_).trans ?_
  ·obtain ⟨p,hp,rfl⟩:=List.mem_map.mp hx
   simp only [vSh,vC,slF,pN,pS,qd,qc,zhP,zvU]
  ·rw [qq];rfl
 have eT:bwT 3 (zj3 (toB (b2 neA (vSh 6) (vSh 7))) (toB (b2 zff (zbW (szF (zaa (vSh 6) (zaa (vSh 7) zal)))) (za1 (zaP (itF (vSh 3)) (zaJ 0) tT (slF (vSh 0) pN (pS (vC (.int 2)))) [none]))))) (lE c ss h ls ds (oS (.int (0+(i:Int)))) (oS (.str sa.nm)) (oS (.str sb.nm)))=some ((!decide (sa.nm=sb.nm)) && !decide ([U.a,U.b]∈ls.map fun l=>[l.a,l.b])) :=
  ztP rfl (zjd (za4 (zax rfl rfl (zq2 _ _))) (za4 (zax (x:=.tup ([U.a,U.b].map D.str)) (zcH rfl rfl) eL (zk9 nU nA))))
 by_cases ht:((!decide (sa.nm=sb.nm)) && !decide ([U.a,U.b]∈ls.map fun l=>[l.a,l.b]))=true
 ·have hq:sa.nm≠sb.nm/\[U.a,U.b]∉ls.map fun l=>[l.a,l.b]:=by simpa using ht
  refine ⟨ls++[U],_,_,(zaD e6).trans ((zaD e7).trans ((zde eT).trans ((qU ht).trans (zfm (x:=U) rfl (zj8 rfl rfl (zaL (zaf rfl (zaf (ixs 3 _ _ [] x3 3 rfl q3 _) zat)) rfl)) (by omega))))),⟨?_,?_,?_⟩⟩
  ·rw [qk];have:=I.len;simp;omega
  ·intro u hu
   rcases List.mem_append.mp hu with q | q
   ·exact I.good u q
   ·rw [List.mem_singleton.mp q]
    refine ⟨qS ha,qS hb,hq.1,?_,?_⟩
    ·show 0<=if x3 < h then x3 else h
     split <;> omega
    ·show (if x3 < h then x3 else h)<=h
     split <;> omega
  ·rw [List.map_append,List.nodup_append]
   refine ⟨I.nd,by simp,fun a ha b' hb' hab=>?_⟩
   have:b'=[U.a,U.b]:=by simpa using hb'
   rw [hab,this] at ha
   exact hq.2 ha
 ·exact ⟨ls,_,_,(zaD e6).trans ((zaD e7).trans ((zde eT).trans ((qV ht).trans rfl))),⟨by have:=I.len;omega,I.good,I.nd⟩⟩
theorem zmw {n i:Nat} {x:D} (h:((List.range n).map fun k:Nat=>D.int (0+k))[i]?=some x):i < n/\x=.int (0+(i:Int)):=by
 rw [qm] at h
 obtain ⟨k,hk,rfl⟩:=oMd h
 rw [List.getElem?_eq_some_iff] at hk
 obtain ⟨h1,h2⟩:=hk
 rw [List.length_range] at h1
 rw [List.getElem_range] at h2
 subst h2
 exact ⟨h1,rfl⟩
theorem zm7 (c:Int) (ss:List StepT) (h:Int) (hh:1<=h) (hs1:1<=ss.length) (hsn:∀ x∈ss.map (·.nm),zbG x=true):∃ ls:List LinkT,zb3 [.int c,.lst (ss.map zaO),.int h]=some (.lst (ls.map zhP))/\ls.length<=2/\(∀ l∈ls,GoodL (ss.map (·.nm)) h l)/\(ls.map fun l=>[l.a,l.b]).Nodup:=by
 obtain ⟨ds,e,hd,hbd⟩:=zdf c 5 (by omega) [3,9,9,4,9,9,4] (by decide) (by decide)
 have hds:∀ j,j < 7->∃ d,ds[j]?=some d/\0<=d:=fun j hj=>by
  have:∃ s,([3,9,9,4,9,9,4]:List Int)[j]?=some s:=⟨_,qC (by simpa using hj)⟩
  obtain ⟨s,hs⟩:=this
  obtain ⟨d,q1,q2,_⟩:=hbd j s hs
  exact ⟨d,q1,q2⟩
 obtain ⟨d0,q0,p0,r0⟩:=hbd 0 3 rfl
 obtain ⟨ρ',h1,ls,a,b,d,h2,h3⟩:=zc0 (gg:=zaJ 5) (body:=zpH) (xs:=(List.range d0.toNat).map fun k:Nat=>D.int (0+k)) (ρ:=lE c ss h [] ds none none none)
  (fun i ρ=>∃ ls a b d,ρ=lE c ss h ls ds a b d/\LInv (ss.map (·.nm)) h i ls) ⟨[],none,none,none,rfl,⟨qw _,fun j hj=>(by cases hj),by simp⟩⟩ (fun i x ρ hx hI=>by
   obtain ⟨ls,a,b,d,rfl,I⟩:=hI
   obtain ⟨hi,rfl⟩:=zmw hx
   obtain ⟨ls',y',z',e1,e2⟩:=zrd (c:=c) (h:=h) (ss:=ss) (ls:=ls) (ds:=ds) (i:=i) (y:=b) (z:=d) hh (by omega) hs1 hsn hds I
   exact ⟨_,_,rfl,e1,ls',_,_,_,rfl,e2⟩)
 rw [qg,List.length_range] at h3
 have eS:cF zai (zaa (vSh 0) (zaa (vC (.int 5)) (zaa (za1 (szF (zaa (vC (.int 3)) (zaa (vC (.int 9)) (zaa (vC (.int 9)) (zaa (vC (.int 4)) (zaa (vC (.int 9)) (zaa (vC (.int 9)) (zaa (vC (.int 4)) zal))))))))) zal))) [oS (.int c),oS (.lst (ss.map zaO)),oS (.int h),some (.own []),none,none,none,none]=some (.lst (ds.map D.int)) :=
  zaL (zaf rfl (zaf rfl (zaf (zm2 rfl rfl rfl rfl rfl rfl rfl) zat))) e
 have eI:itR zk1 (zaa (b2 ixD (vSh 4) (vC (.int 0))) zal) (lE c ss h [] ds none none none)=some ((List.range d0.toNat).map fun k:Nat=>D.int (0+k)):=zig (zaf (zcw (n:=0) rfl q0) zat) (zgZ ⟨p0,by omega⟩)
 exact ⟨ls,zaR [oS (.int c),oS (.lst (ss.map zaO)),oS (.int h),none,none,none,none,none] rfl (zfB.trans ((zaD eS).trans ((zbr ((zct eI).trans (h1.trans (by rw [h2])))).trans ((zeu rfl).trans (zaS (f:=vSh 3) rfl))))),by have:=h3.len;omega,h3.good,h3.nd⟩
end Law
end
section
namespace Law
open PySem L2
theorem znL {ft:FT} {fe:FE} {r:zaZ} {v:Int} (ht:∀ (j:Nat) (s:StepT),∃ q:Bool,ft (oS (.int (j:Int))::oS (zaO s)::r)=some q) (he:∀ (j:Nat) (s:StepT),fe (oS (.int (j:Int))::oS (zaO s)::r)=some (dW (s.nm,v))) :
  ∀ (ss:List StepT) (F:Nat->Nat) (a b:Option Slot),∃ sub:List StepT,sub.Sublist ss/\zfF (zbC 2 (zau (zaJ 0) (zau (zaJ 1) zbB))) ft fe ((ss.map zaO).mapIdx fun i d=>D.tup [.int (F i:Nat),d]) (a::b::r)=some (sub.map fun s=>dW (s.nm,v))
 | [],_,_,_=>⟨[],.slnil,rfl⟩
 | s::ss,F,a,b=>by
  obtain ⟨sub,h1,h2⟩:=znL ht he ss (fun i=>F (i+1)) (oS (.int (F 0:Nat))) (oS (zaO s))
  obtain ⟨q,hq⟩:=ht (F 0) s
  have e0:zbC 2 (zau (zaJ 0) (zau (zaJ 1) zbB)) (.tup [.int (F 0:Nat),zaO s]) (a::b::r)=some (oS (.int (F 0:Nat))::oS (zaO s)::r):=rfl
  rw [qp,List.mapIdx_cons]
  cases q with
  | true =>
   refine ⟨s::sub,h1.cons_cons s,?_⟩
   simp only [zfF,e0,qc,hq,if_true,he,h2,qf,qp]
  | false =>
   refine ⟨sub,h1.cons s,?_⟩
   simp only [zfF,e0,qc,hq,Bool.false_eq_true,if_false,h2]
def tkT (n:Int):FT:=toB (b2 eqD (b2 zb6 (b2 zfh (b2 zbv (b2 ixD (vSh 2) (vC (.int n))) (vSh 3)) (b2 ixD (za1 (szF (zaa (vC (.int 1)) (zaa (vC (.int 2)) (zaa (vC (.int 4)) zal))))) (b2 zb6 (vSh 0) (vC (.int 3))))) (vC (.int 2))) (vC (.int 1)))
def tkE (n:Int):FE:=zbW (szF (zaa (b2 ixD (vSh 1) (vC (.int 0))) (zaa (b2 zbv (vC (.int 1)) (b2 ixD (vSh 2) (vC (.int n)))) zal)))
def tkC (n m:Int):FE:=za1 (zaP (itE (vSh 1)) (zbC 2 (zau (zaJ 0) (zau (zaJ 1) zbB))) (tkT n) (tkE m) [none,none,some 2,some 4])
abbrev kE (c:Int) (ss:List StepT) (ds:List Int) (ks:List StockT) (k a b d:Option Slot):zaZ:=[oS (.int c),oS (.lst (ss.map zaO)),oS (.lst (ds.map D.int)),some (.own (ks.map zhi)),k,a,b,d]
theorem zkY {c k:Int} {ss:List StepT} {ds:List Int} {ks:List StockT} {a b d:Option Slot} {n m:Nat} {x v:Int} (hl:ss.length<=40) (hn:ds[n]?=some x) (hm:ds[m]?=some v) :
  ∃ sub:List StepT,sub.Sublist ss/\tkC (n:Int) (m:Int) (kE c ss ds ks (oS (.int k)) a b d)=some (.lst ((sub.map fun s=>(s.nm,1+v)).map dW)):=by
 have ht:∀ (j:Nat) (s:StepT),∃ q:Bool,tkT (n:Int) (oS (.int (j:Int))::oS (zaO s)::[oS (.lst (ds.map D.int)),oS (.int k)])=some q:=fun j s=>by
  have m0:0<=(j:Int) % 3:=qT _ (by decide)
  have m1:(j:Int) % 3 < 3:=qR _ (by decide)
  obtain ⟨w,hw,hw1⟩:∃ w:Int,ixD (.lst [.int 1,.int 2,.int 4]) (.int ((j:Int) % 3))=some (.int w)/\(0 < w/\w < 1073741824):=by
   have:(j:Int) % 3=0\/(j:Int) % 3=1\/(j:Int) % 3=2:=by omega
   rcases this with z | z | z <;> rw [z]
   ·exact ⟨1,rfl,by decide⟩
   ·exact ⟨2,rfl,by decide⟩
   ·exact ⟨4,rfl,by decide⟩
  exact ⟨_,za4 (zax (zax (zax (zax (zcw rfl hn) rfl rfl) (zax (zkp rfl rfl rfl) (zax rfl rfl (zcc (by decide))) hw) (ziP hw1)) rfl (zcc (by decide))) rfl rfl)⟩
 have he:∀ (j:Nat) (s:StepT),tkE (m:Int) (oS (.int (j:Int))::oS (zaO s)::[oS (.lst (ds.map D.int)),oS (.int k)])=some (dW (s.nm,1+v)):=fun j s =>
  zcH (zax rfl rfl zma) (zax rfl (zcw rfl hm) rfl)
 obtain ⟨sub,h1,h2⟩:=znL ht he ss (fun i=>i) none none
 refine ⟨sub,h1,?_⟩
 have e1:itE (vSh 1) (kE c ss ds ks (oS (.int k)) a b d)=some ((ss.map zaO).mapIdx fun i d=>D.tup [.int i,d]):=rfl
 have e2:zet [none,none,some 2,some 4] (kE c ss ds ks (oS (.int k)) a b d)=none::none::[oS (.lst (ds.map D.int)),oS (.int k)]:=rfl
 unfold tkC za1 zaP
 rw [e1,qc,qU (by rw [List.length_mapIdx,qg];exact szN hl (by decide)),e2,h2,qf,qq]
 rfl
theorem zjI {ss sub:List StepT} {v:Int} (h:sub.Sublist ss) (nd:(ss.map (·.nm)).Nodup) (hv:1<=v/\v<=1000000):GoodA (ss.map (·.nm)) (sub.map fun s=>(s.nm,v)):=by
 refine ⟨by rw [qg,qg];exact h.length_le,fun w hw=>?_,?_⟩
 ·obtain ⟨s,hs,rfl⟩:=List.mem_map.mp hw
  exact ⟨qS (h.subset hs),hv⟩
 ·rw [qq]
  exact List.Sublist.nodup (h.map (·.nm)) nd
structure KInv (sn:List Str) (i:Nat) (ks:List StockT):Prop where
 len:ks.length=i
 good:∀ k∈ks,GoodK sn k
 nmk:∀ (j:Nat) k,ks[j]?=some k->k.nm=nm (80+j)
def zpx:FS:=(zay (zba 5 (b2 zbv (b2 ixD (vSh 2) (vC (.int 1))) (b2 ixD (vSh 2) (vC (.int 2))))) (zay (zba 6 (za1 (zaP (itE (vSh 1)) (zbC 2 (zau (zaJ 0) (zau (zaJ 1) zbB))) (toB (b2 eqD (b2 zb6 (b2 zfh (b2 zbv (b2 ixD (vSh 2) (vC (.int 3))) (vSh 3)) (b2 ixD (za1 (szF (zaa (vC (.int 1)) (zaa (vC (.int 2)) (zaa (vC (.int 4)) zal))))) (b2 zb6 (vSh 0) (vC (.int 3))))) (vC (.int 2))) (vC (.int 1)))) (zbW (szF (zaa (b2 ixD (vSh 1) (vC (.int 0))) (zaa (b2 zbv (vC (.int 1)) (b2 ixD (vSh 2) (vC (.int 5)))) zal)))) [none,none,some 2,some 4]))) (zay (zba 7 (za1 (zaP (itE (vSh 1)) (zbC 2 (zau (zaJ 0) (zau (zaJ 1) zbB))) (toB (b2 eqD (b2 zb6 (b2 zfh (b2 zbv (b2 ixD (vSh 2) (vC (.int 4))) (vSh 3)) (b2 ixD (za1 (szF (zaa (vC (.int 1)) (zaa (vC (.int 2)) (zaa (vC (.int 4)) zal))))) (b2 zb6 (vSh 0) (vC (.int 3))))) (vC (.int 2))) (vC (.int 1)))) (zbW (szF (zaa (b2 ixD (vSh 1) (vC (.int 0))) (zaa (b2 zbv (vC (.int 1)) (b2 ixD (vSh 2) (vC (.int 6)))) zal)))) [none,none,some 2,some 4]))) (zfX 3 (zbW (szF (zaa (cF zas (zaa (b2 zbv (vC (.int 80)) (vSh 4)) zal)) (zaa (b2 ixD (vSh 2) (vC (.int 1))) (zaa (vSh 5) (zaa (vSh 6) (zaa (vSh 7) zal)))))))))))
theorem zqi {c:Int} {ss:List StepT} {ds:List Int} {ks:List StockT} {i:Nat} {x y z:Option Slot} {d1 d2 d3 d4 d5 d6:Int} (hi:i < 2) (hl:ss.length<=40) (nd:(ss.map (·.nm)).Nodup)
  (q1:ds[1]?=some d1) (q2:ds[2]?=some d2) (q3:ds[3]?=some d3) (q4:ds[4]?=some d4) (q5:ds[5]?=some d5) (q6:ds[6]?=some d6) (p1:0<=d1/\d1 < 4) (p2:0<=d2/\d2 < 5) (p5:0<=d5/\d5 < 4) (p6:0<=d6/\d6 < 4) (I:KInv (ss.map (·.nm)) i ks) :
  ∃ ks' x' y' z',zpx (kE c ss ds ks (oS (.int (0+(i:Int)))) x y z)=some (.nx,kE c ss ds ks' (oS (.int (0+(i:Int)))) x' y' z')/\KInv (ss.map (·.nm)) (i+1) ks':=by
 have hn:=(zjx (k:=80+i) (by omega)).1
 have hnb:=(zjx (k:=80+i) (by omega)).2
 have hn':zas [.int (80+(0+(i:Int)))]=some (.str (nm (80+i))):=by
  rw [← hn];congr 3;omega
 have e5:b2 zbv (b2 ixD (vSh 2) (vC (.int 1))) (b2 ixD (vSh 2) (vC (.int 2))) (kE c ss ds ks (oS (.int (0+(i:Int)))) x y z)=some (.int (d1+d2)):=zax (zcw (n:=1) rfl q1) (zcw (n:=2) rfl q2) rfl
 obtain ⟨s1,h1,e6⟩:=zkY (c:=c) (k:=0+(i:Int)) (ss:=ss) (ks:=ks) (a:=oS (.int (d1+d2))) (b:=y) (d:=z) (n:=3) (m:=5) hl q3 q5
 obtain ⟨s2,h2,e7⟩:=zkY (c:=c) (k:=0+(i:Int)) (ss:=ss) (ks:=ks) (a:=oS (.int (d1+d2))) (b:=some (.sh (.lst ((s1.map fun s=>(s.nm,1+d5)).map dW)))) (d:=z) (n:=4) (m:=6) hl q4 q6
 let K:StockT:=⟨nm (80+i),d1,d1+d2,s1.map fun s=>(s.nm,1+d5),s2.map fun s=>(s.nm,1+d6)⟩
 refine ⟨ks++[K],_,_,_,(zaD e5).trans ((zaD e6).trans ((zaD e7).trans (zfm (x:=K) rfl (zmh (zaL (zaf (zax rfl rfl rfl) zat) hn') (zcw (n:=1) rfl q1) rfl rfl rfl) (by have:=I.len;omega)))),⟨?_,?_,?_⟩⟩
 ·rw [qk,I.len];rfl
 ·intro k hk
  rcases List.mem_append.mp hk with q | q
  ·exact I.good k q
  ·rw [List.mem_singleton.mp q]
   exact ⟨hnb,⟨p1.1,by show d1<=d1+d2;omega⟩,⟨by show 0<=d1+d2;omega,by show d1+d2<=_;omega⟩,zjI h1 nd (by omega),zjI h2 nd (by omega)⟩
 ·intro j k hj
  by_cases hji:j < ks.length
  ·rw [qy hji] at hj
   exact I.nmk j k hj
  ·have hl2:=(List.getElem?_eq_some_iff.mp hj).1
   rw [qk,List.length_singleton] at hl2
   rw [qI (by omega),show j - ks.length=0 by omega] at hj
   cases hj
   have:=I.len
   rw [show j=i by omega]
theorem zes {α:Type} {l:List α} {f:α->Str} {g:Nat->Str} {n:Nat} (hn:l.length<=n) (hg:∀ i,i < n->∀ j,j < n->g i=g j->i=j) (h:∀ (j:Nat) k,l[j]?=some k->f k=g j):(l.map f).Nodup:=by
 rw [List.nodup_iff_pairwise_ne,List.pairwise_iff_getElem]
 intro i j hi hj hij e
 rw [qg] at hi hj
 rw [List.getElem_map,List.getElem_map,h i _ (qC hi),h j _ (qC hj)] at e
 have:=hg i (by omega) j (by omega) e
 omega
theorem zlR (c:Int) (ss:List StepT) (hl:ss.length<=40) (nd:(ss.map (·.nm)).Nodup):∃ ks:List StockT,zbN [.int c,.lst (ss.map zaO)]=some (.lst (ks.map zhi))/\ks.length<=2/\(∀ k∈ks,GoodK (ss.map (·.nm)) k)/\(ks.map (·.nm)).Nodup:=by
 obtain ⟨ds,e,hd,hbd⟩:=zdf c 9 (by omega) [3,4,5,8,8,4,4] (by decide) (by decide)
 obtain ⟨d0,q0,p0,r0⟩:=hbd 0 3 rfl
 obtain ⟨d1,q1,p1⟩:=hbd 1 4 rfl
 obtain ⟨d2,q2,p2⟩:=hbd 2 5 rfl
 obtain ⟨d3,q3,p3⟩:=hbd 3 8 rfl
 obtain ⟨d4,q4,p4⟩:=hbd 4 8 rfl
 obtain ⟨d5,q5,p5⟩:=hbd 5 4 rfl
 obtain ⟨d6,q6,p6⟩:=hbd 6 4 rfl
 obtain ⟨ρ',h1,ks,a,x,y,z,h2,h3⟩:=zc0 (gg:=zaJ 4) (body:=zpx) (xs:=(List.range d0.toNat).map fun k:Nat=>D.int (0+k)) (ρ:=kE c ss ds [] none none none none)
  (fun i ρ=>∃ ks a x y z,ρ=kE c ss ds ks a x y z/\KInv (ss.map (·.nm)) i ks) ⟨[],none,none,none,none,rfl,⟨rfl,fun j hj=>(by cases hj),fun j k hj=>(by simp at hj)⟩⟩ (fun i w ρ hx hI=>by
   obtain ⟨ks,a,x,y,z,rfl,I⟩:=hI
   obtain ⟨hi,rfl⟩:=zmw hx
   obtain ⟨ks',x',y',z',e1,e2⟩:=zqi (c:=c) (ss:=ss) (ds:=ds) (ks:=ks) (i:=i) (x:=x) (y:=y) (z:=z) (by omega) hl nd q1 q2 q3 q4 q5 q6 p1 p2 p5 p6 I
   exact ⟨_,_,rfl,e1,ks',_,_,_,_,rfl,e2⟩)
 rw [qg,List.length_range] at h3
 have eS:cF zai (zaa (vSh 0) (zaa (vC (.int 9)) (zaa (za1 (szF (zaa (vC (.int 3)) (zaa (vC (.int 4)) (zaa (vC (.int 5)) (zaa (vC (.int 8)) (zaa (vC (.int 8)) (zaa (vC (.int 4)) (zaa (vC (.int 4)) zal))))))))) zal))) [oS (.int c),oS (.lst (ss.map zaO)),none,none,none,none,none,none]=some (.lst (ds.map D.int)) :=
  zaL (zaf rfl (zaf rfl (zaf (zm2 rfl rfl rfl rfl rfl rfl rfl) zat))) e
 have eI:itR zk1 (zaa (b2 ixD (vSh 2) (vC (.int 0))) zal) (kE c ss ds [] none none none none)=some ((List.range d0.toNat).map fun k:Nat=>D.int (0+k)):=zig (zaf (zcw (n:=0) rfl q0) zat) (zgZ ⟨p0,by omega⟩)
 exact ⟨ks,zaR [oS (.int c),oS (.lst (ss.map zaO)),none,none,none,none,none,none] rfl ((zaD eS).trans (zfB.trans ((zbr ((zct eI).trans (h1.trans (by rw [h2])))).trans ((zeu rfl).trans (zaS (f:=vSh 3) rfl))))),by have:=h3.len;omega,h3.good,zes (n:=3) (by have:=h3.len;omega) zqY h3.nmk⟩
theorem ziY (ns:List Int) (n m:Nat) (hn:n<=1000) {fi:FA} {ρ:zaZ} {k:Int} (hk:k=(m:Int)) (h0:ρ[0]?=some (oS (.scr ns))) (hfi:fi ρ=some ((List.range n).map fun i:Nat=>D.int (0+i))) :
  ∃ cs:List Int,za1 (zaP fi (zaJ 0) tT (cF zar (zaa (vSh 1) (zaa (b2 zbv (vC (.int k)) (vSh 0)) zal))) [none,some 0]) ρ=some (.lst (cs.map D.int))/\cs.length=n:=by
 have hfv:zet [none,some 0] ρ=none::[oS (.scr ns)]:=by
  simp only [zet,qp,qM,Option.bind_none,qc,h0]
 have hc:=zb7 (fi:=fi) (fe:=cF zar (zaa (vSh 1) (zaa (b2 zbv (vC (.int k)) (vSh 0)) zal))) (fv:=[none,some 0]) (ρ:=ρ) (r:=[oS (.scr ns)]) (a:=none) (f:=fun d=>match d with | .int i=>.int (ns.getD (m+i.toNat) 0) | _=>.non) hfi (by rw [qg,List.length_range];exact szN hn (by decide)) hfv (fun x hx=>by
  obtain ⟨i,hi,rfl⟩:=List.mem_map.mp hx
  have e:=zd1 ns (m+i)
  refine zaL (zaf rfl (zaf (zax rfl rfl rfl) zat)) ?_
  subst hk
  have e1:((m:Int)+(0+(i:Int)))=((m+i:Nat):Int):=by omega
  rw [e1,e]
  congr 3
  omega)
 refine ⟨(List.range n).map fun i=>ns.getD (m+i) 0,?_,by rw [qg,List.length_range]⟩
 rw [hc,qq,qq]
 congr 2
 refine List.map_congr_left fun i _=>?_
 show D.int (ns.getD (m+(0+(i:Int)).toNat) 0)=D.int (ns.getD (m+i) 0)
 congr 3
 omega
def zpU (bs:List BenchT) (ss:List StepT) (js:List JobT) (us:List SetT) (ls:List LinkT) (ks:List StockT) (h:Int):D:=.lst [.lst (bs.map zaK),.lst (ss.map zaO),.lst (js.map zpV),.lst (us.map zjO),.lst (ls.map zhP),.lst (ks.map zhi),.int h]
theorem zop {n:Nat} {g:FS} {ds:List D} {d:List D} (ρ:zaZ) {ρ':zaZ} (e:ds.map (fun d=>some (Slot.sh d))++List.replicate n none=ρ) (h:g ρ=some (.ow d,ρ')):zr2 n g ds=some d:=by
 subst e;unfold zr2;rw [h];rfl
theorem zqp {fr:FA} {ρ:zaZ} {d:List D} (h:fr ρ=some d):zms fr ρ=some (.ow d,ρ):=by unfold zms;rw [h];rfl
theorem ztO {g:List D->Option (List D)} {fr:FA} {ρ:zaZ} {ds:List D} {z:List D} (h1:fr ρ=some ds) (h2:g ds=some z):cFO g fr ρ=some z:=by
 unfold cFO;rw [h1];exact h2
def zm3 (bs:List BenchT) (ss:List StepT) (js:List JobT) (us:List SetT) (ls:List LinkT) (ks:List StockT) (h:Int):List D:=[.lst (bs.map zaK),.lst (ss.map zaO),.lst (js.map zpV),.lst (us.map zjO),.lst (ls.map zhP),.lst (ks.map zhi),.int h]
theorem zsn {f g e a b c d:FE} {ρ:zaZ} {x y z w u v t:D} (h1:f ρ=some x) (h2:g ρ=some y) (h3:e ρ=some z) (h4:a ρ=some w) (h5:b ρ=some u) (h6:c ρ=some v) (h7:d ρ=some t):szF (zaa f (zaa g (zaa e (zaa a (zaa b (zaa c (zaa d zal))))))) ρ=some [x,y,z,w,u,v,t]:=by
 simp only [szF,zaa,zal,h1,h2,h3,h4,h5,h6,h7,qc,qf,qj,qo,Nat.zero_add,sz7,if_true]
theorem zoN (ns:List Int) (n:Nat) (h lo:Int) (hn:1<=n/\n<=10) (hh:1<=h/\h<=1000000) (hlo:0 < lo/\lo < 1000):∃ bs ss js us ls ks,zb2 [.scr ns,.int (n:Int),.int h,.int lo]=some (zm3 bs ss js us ls ks h)/\Good bs ss js us ls ks h/\bs.length<=3/\ss.length=n/\∀ s∈ss,∀ w∈s.ws,w.2<=lo:=by
 have b0:0<=(ns.getD 0 0) % 3:=qT _ (by decide)
 have b1:(ns.getD 0 0) % 3 < 3:=qR _ (by decide)
 obtain ⟨nb,hnb⟩:∃ nb:Nat,1+(ns.getD 0 0) % 3=(nb:Int):=⟨(1+(ns.getD 0 0) % 3).toNat,by omega⟩
 obtain ⟨cb,eb,lb⟩:=ziY ns nb 1 (by omega) (k:=1) (fi:=itR zk1 (zaa (b2 zbv (vC (.int 1)) (b2 zb6 (cF zar (zaa (vSh 0) (zaa (vC (.int 0)) zal))) (vC (.int 3)))) zal)) (ρ:=[oS (.scr ns),oS (.int n),oS (.int h),oS (.int lo),none,none,none,none,none,none]) rfl rfl (zig (zaf (d:=.int (nb:Int)) (zax rfl (zax (zaL (zaf rfl (zaf rfl zat)) (zd1 ns 0)) rfl (zcc (by decide))) (by rw [← hnb];rfl)) zat) (zgZ (j:=(nb:Int)) (by omega)))
 obtain ⟨bs,e1,l1,g1⟩:=zkr cb h (by omega)
 have bnd:(bs.map (·.nm)).Nodup:=zes (n:=3) (by omega) zq0 fun j b hj=>(g1 j b hj).nm
 have hbn:∀ x∈bs.map (·.nm),zbG x=true:=fun x hx=>by
  obtain ⟨b,hb,rfl⟩:=List.mem_map.mp hx
  obtain ⟨j,hj⟩:=List.getElem?_of_mem hb
  have hjl:=(List.getElem?_eq_some_iff.mp hj).1
  rw [(g1 j b hj).nm]
  exact (zjx (by omega)).2
 obtain ⟨ct,et,lt⟩:=ziY ns n 4 (by omega) (k:=4) (fi:=itR zk1 (zaa (vSh 1) zal)) (ρ:=[oS (.scr ns),oS (.int n),oS (.int h),oS (.int lo),oS (.lst (bs.map zaK)),none,none,none,none,none]) rfl rfl (zig (zaf rfl zat) (zgZ (j:=(n:Int)) (by omega)))
 obtain ⟨ss,e2,l2,g2⟩:=zm1 ct bs h lo hh.1 hlo (by omega) (by omega) bnd
 have snd:(ss.map (·.nm)).Nodup:=zes (n:=10) (by omega) zq1 fun j b hj=>(g2 j b hj).nm
 have gs:∀ s∈ss,GoodS (bs.map (·.nm)) h s:=fun s hs=>by
  obtain ⟨j,hj⟩:=List.getElem?_of_mem hs
  exact (g2 j s hj).good
 have hsn:∀ x∈ss.map (·.nm),zbG x=true:=fun x hx=>by
  obtain ⟨b,hb,rfl⟩:=List.mem_map.mp hx
  exact (gs b hb).nm
 obtain ⟨cj,ej,lj⟩:=ziY ns 3 14 (by omega) (k:=14) (fi:=itR zk1 (zaa (vC (.int 3)) zal)) (ρ:=[oS (.scr ns),oS (.int n),oS (.int h),oS (.int lo),oS (.lst (bs.map zaK)),oS (.lst (ss.map zaO)),none,none,none,none]) rfl rfl (zig (zaf rfl zat) (zgZ (j:=3) (by omega)))
 obtain ⟨js,e3,l3,g3,g4,g5⟩:=zoM cj ss h hh.1 (by omega) (by omega) hsn snd
 obtain ⟨us,e4,l4,g6,g7⟩:=zlS (ns.getD 17 0) bs h hh.1 (by omega) hbn
 obtain ⟨ls,e5,l5,g8,g9⟩:=zm7 (ns.getD 18 0) ss h hh.1 (by omega) hsn
 obtain ⟨ks,e6,l6,g10,g11⟩:=zlR (ns.getD 19 0) ss (by omega) snd
 refine ⟨bs,ss,js,us,ls,ks,?_,⟨hh,by omega,fun x hx=>?_,bnd,by omega,gs,snd,by omega,g3,g4,g5,by omega,g6,g7,by omega,g8,g9,by omega,g10,g11⟩,by omega,by omega,fun s hs w hw=>by
  obtain ⟨j,hj⟩:=List.getElem?_of_mem hs
  exact (g2 j s hj).ml w hw⟩
 ·refine zop [oS (.scr ns),oS (.int n),oS (.int h),oS (.int lo),none,none,none,none,none,none] rfl ((zaD (zaL (zaf eb (zaf rfl zat)) e1)).trans ((zaD (zaL (zaf et (zaf rfl (zaf rfl (zaf rfl zat)))) e2)).trans ((zaD (zaL (zaf ej (zaf rfl (zaf rfl zat))) e3)).trans ((zaD (zaL (zaf (zaL (zaf rfl (zaf rfl zat)) (zd1 ns 17)) (zaf rfl (zaf rfl zat))) e4)).trans ((zaD (zaL (zaf (zaL (zaf rfl (zaf rfl zat)) (zd1 ns 18)) (zaf rfl (zaf rfl zat))) e5)).trans ((zaD (zaL (zaf (zaL (zaf rfl (zaf rfl zat)) (zd1 ns 19)) (zaf rfl zat)) e6)).trans (zqp (zsn rfl rfl rfl rfl rfl rfl rfl))))))))
 ·obtain ⟨j,hj⟩:=List.getElem?_of_mem hx
  have hjl:=(List.getElem?_eq_some_iff.mp hj).1
  have g:=g1 j x hj
  exact ⟨by rw [g.nm];exact (zjx (by omega)).2,by have:=g.len;omega,g.good.iv,g.good.gap⟩
end Law
end
section
namespace Law
open PySem L2
theorem znX (ns:List Int):∀ k:Nat,argBest (btG ns) k<=k/\∀ j,j<=k->ns.getD j 0<=ns.getD (argBest (btG ns) k) 0
 | 0=>⟨qw _,fun j hj=>by rw [Nat.le_zero.mp hj];exact Int.le_refl _⟩
 | k+1=>by
  obtain ⟨h1,h2⟩:=znX ns k
  unfold argBest
  by_cases h:btG ns (k+1) (argBest (btG ns) k)=true
  ·rw [qU h]
   have h':=of_decide_eq_true h
   refine ⟨qw _,fun j hj=>?_⟩
   by_cases e:j=k+1
   ·rw [e];exact Int.le_refl _
   ·have:=h2 j (by omega)
    omega
  ·rw [qV h]
   have h':¬ ns.getD (argBest (btG ns) k) 0 < ns.getD (k+1) 0:=fun z=>h (qQ z)
   refine ⟨by omega,fun j hj=>?_⟩
   by_cases e:j=k+1
   ·rw [e];omega
   ·exact h2 j (by omega)
theorem zmj {ns:List Int} (h:ns≠[]):zjf ns∈ns/\∀ x∈ns,x<=zjf ns:=by
 have hl:0 < ns.length:=List.length_pos_iff.mpr h
 obtain ⟨h1,h2⟩:=znX ns (ns.length - 1)
 have hlt:argBest (btG ns) (ns.length - 1) < ns.length:=by omega
 refine ⟨?_,fun x hx=>?_⟩
 ·unfold zjf
  rw [List.getD_eq_getElem?_getD,qC hlt]
  exact List.getElem_mem hlt
 ·obtain ⟨i,hi⟩:=List.getElem?_of_mem hx
  have hil:=(List.getElem?_eq_some_iff.mp hi).1
  have:=h2 i (by omega)
  rw [List.getD_eq_getElem?_getD,hi] at this
  exact this
theorem zoc {a b:List Int} (h:a≠[]) (p:a.Perm b):zjf a=zjf b:=by
 have hb:b≠[]:=fun e=>h (by rw [e] at p;exact List.perm_nil.mp p)
 obtain ⟨a1,a2⟩:=zmj h
 obtain ⟨b1,b2⟩:=zmj hb
 have:=a2 _ (p.mem_iff.mpr b1)
 have:=b2 _ (p.mem_iff.mp a1)
 omega
theorem ziM {α:Type} {f:α->Int}:∀ (l:List α),zjG (l.map fun x=>D.int (f x))=some (l.map f)
 | []=>rfl
 | x::r=>by
  show (zjG (r.map fun x=>D.int (f x))).map (f x::·)=_
  rw [ziM r];rfl
structure PlT where
 nm:Str
 bn:Str
 st:Int
 ln:Int
def kP (q:PlT):Key×D:=(.inr q.nm,.tup [.str q.bn,.int q.st])
def kN (q:PlT):Key×D:=(.inr q.nm,.int (q.st+q.ln))
structure PlInv (ss:List StepT) (m:Nat) (rs:List StepT) (qs:List PlT):Prop where
 len:qs.length=m
 perm:(qs.map (·.nm)++rs.map (·.nm)).Perm (ss.map (·.nm))
 sub:∀ r∈rs,r∈ss
 way:∀ q∈qs,∃ s∈ss,s.nm=q.nm/\(q.bn,q.ln)∈s.ws
 seq:qs.Pairwise fun a b=>a.st+a.ln<=b.st
 lo:∀ q∈qs,0<=q.st/\1<=q.ln/\q.st+q.ln+36<=45*(m:Int)
theorem zq8 {qs:List PlT} (h:qs≠[]):zhM (.dk (qs.map kN))=some (.int (zjf (qs.map fun q=>q.st+q.ln))):=by
 have e:(qs.map kN).map (·.2)=qs.map fun q=>D.int (q.st+q.ln):=by rw [qq];rfl
 show (zjG ((qs.map kN).map (·.2))).bind _=_
 rw [e,ziM (f:=fun q:PlT=>q.st+q.ln),qc,qV (by simpa using h)]
abbrev dwE (ss:List StepT) (c:Int) (rs:List StepT) (qs:List PlT) (fr:Int) (a b x y z u v:Option Slot):zaZ:=[oS (.lst (ss.map zaO)),oS (.int c),some (.own (rs.map zaO)),some (.odk (qs.map kP)),some (.odk (qs.map kN)),oS (.int fr),a,b,x,y,z,u,v]
theorem zmy {i:Nat} {fk fv:FE} {ρ:zaZ} {l:List (Key×D)} {x:Str} {d:D} (hi:ρ[i]?=some (some (.odk l))) (hv:fv ρ=some d) (hk:fk ρ=some (.str x)) (hl:l.length < 100000) (hn:∀ kv∈l,kv.1≠.inr x):zeS i fk fv ρ=some (.nx,ρ.set i (some (.odk (l++[(.inr x,d)])))):=by
 have e:zki l (.inr x:Key) d=l++[(.inr x,d)]:=by
  unfold zki
  rw [qV]
  intro z
  obtain ⟨kv,h1,h2⟩:=List.any_eq_true.mp z
  exact hn kv h1 (of_decide_eq_true h2)
 rw [← e]
 unfold zeS
 rw [hv,qc,hk,qc,hi]
 show ((some (Sum.inr x:Key)).bind fun k=>if l.length < 100000 then some (Fl.nx,ρ.set i (some (.odk (zki l k d)))) else none)=_
 rw [qc,qU hl]
theorem ztQ {i:Nat} {f:FE} {ρ:zaZ} {ds:List D} {d:D} (h1:ρ[i]?=some (some (.own ds))) (h2:f (ρ.set i (oS (.lst ds)))=some d) (h3:zlY d=true):bwE i f ρ=some d:=by
 unfold bwE;rw [h1];simp only [h2,qc,qU h3]
theorem zrN {i:Nat} {f:FE} {ρ:zaZ} {ds:List (Key×D)} {d:D} (h1:ρ[i]?=some (some (.odk ds))) (h2:f (ρ.set i (oS (.dk ds)))=some d) (h3:zlY d=true):zsd i f ρ=some d:=by
 unfold zsd;rw [h1];simp only [h2,qc,qU h3]
theorem zqm {i:Nat} {fk:FE} {gg:FG} {ρ:zaZ} {ds:List D} {n:Int} (h1:ρ[i]?=some (some (.own ds))) (h2:fk ρ=some (.int n)) (hn:0<=n/\n < 1000000):zpy i fk gg ρ=(ds[n.toNat]?).bind fun d=>(gg d (ρ.set i (some (.own (ds.eraseIdx n.toNat))))).map fun ρ'=>(.nx,ρ'):=by
 unfold zpy
 rw [h1]
 simp only
 rw [h2]
 exact qU hn
theorem zsH {i k:Nat} {fk:FE} {gg:FG} {E:FS} {ρ ρ':zaZ} {ds:List D} {d:D} (h1:ρ[i]?=some (some (.own ds))) (h2:fk ρ=some (.int (k:Int))) (hk:k < 1000) (h3:ds[k]?=some d) (h4:gg d (ρ.set i (some (.own (ds.eraseIdx k))))=some ρ'):zay (zpy i fk gg) E ρ=E ρ':=by
 have e:zpy i fk gg ρ=some (.nx,ρ'):=by
  rw [zqm h1 h2 ⟨by omega,by omega⟩,Int.toNat_natCast,h3,qc,h4]
  rfl
 exact zbr e
theorem zjz {α β:Type} {f:α->β}:∀ (l:List α) (k:Nat),(l.map f).eraseIdx k=(l.eraseIdx k).map f
 | [],_=>rfl
 | x::r,0=>rfl
 | x::r,k+1=>by
  show f x::(r.map f).eraseIdx k=f x::(r.eraseIdx k).map f
  rw [zjz r k]
theorem zia {α:Type}:∀ {l:List α} {k:Nat} {x:α},l[k]?=some x->l.Perm (x::l.eraseIdx k)
 | [],_,_,h=>by simp at h
 | y::r,0,x,h=>by cases h;exact .refl _
 | y::r,k+1,x,h=>by
  have h':r[k]?=some x:=h
  exact ((zia h').cons y).trans (.swap x y _)
end Law
end
section
namespace Law
open PySem L2
def evB:FS:=zay (zpy 2 (bwE 2 (b2 zb6 (vSh 7) (cF zdK (zaa (vSh 2) zal)))) (zbC 3 (zau (zaJ 8) (zau (zaJ 9) (zau (zaJ 10) zbB))))) (zay (zoo (zbC 2 (zau (zaJ 11) (zau (zaJ 12) zbB))) (b2 ixD (vSh 10) (b2 zb6 (vSh 7) (cF zdK (zaa (vSh 10) zal))))) (zay (zeS 3 (vSh 8) (zbW (szF (zaa (vSh 11) (zaa (vSh 5) zal))))) (zeS 4 (vSh 8) (b2 zbv (vSh 5) (vSh 12)))))
def odB:FS:=zba 5 (zsd 4 (b2 zbv (b1 zhM (vSh 4)) (b2 zdX (vSh 7) (vSh 7))))
theorem zp1 {gg:FG} {f:FE} {g:FS} {ρ ρ':zaZ} {d:D} (h1:f ρ=some d) (h2:gg d ρ=some ρ'):zay (zoo gg f) g ρ=g ρ':=by
 unfold zay zoo
 rw [h1,qc,h2];rfl
theorem zpp {g:D->Option D} {f:FE} {ρ:zaZ} {x z:D} (h1:f ρ=some x) (h2:g x=some z):b1 g f ρ=some z:=by
 unfold b1;rw [h1,qc];exact h2
section
variable {ss rs:List StepT} {qs:List PlT} {c fr d:Int} {m:Nat} {a x y z u v:Option Slot} {bn:List Str} {h:Int}
theorem zro (g:∀ s∈ss,GoodS bn h s) (nd:(ss.map (·.nm)).Nodup) (ml:∀ s∈ss,∀ w∈s.ws,w.2<=9) (hm:m<=20) (hr:rs≠[]) (hrl:rs.length<=20) (hd:0<=d) (I:PlInv ss m rs qs) (f1:∀ q∈qs,q.st+q.ln<=fr) (f2:0<=fr) (f3:fr<=45*(m:Int)) :
  ∃ rs' qs' x' y' z' u' v',evB (dwE ss c rs qs fr a (oS (.int d)) x y z u v)=some (.nx,dwE ss c rs' qs' fr a (oS (.int d)) x' y' z' u' v')/\PlInv ss (m+1) rs' qs'/\rs'.length+1=rs.length/\qs'≠[]:=by
 have hl:0 < rs.length:=List.length_pos_iff.mpr hr
 obtain ⟨k,hk⟩:∃ k:Nat,d % (rs.length:Int)=(k:Int):=⟨(d % (rs.length:Int)).toNat,by have:=qT d (show (rs.length:Int)≠0 by omega);omega⟩
 have hkl:k < rs.length:=by have:=qR d (show 0 < (rs.length:Int) by omega);omega
 have hr1:=qC hkl
 generalize rs[k]=r at hr1
 have hrm:r∈ss:=I.sub r (qN hr1)
 have gr:=g r hrm
 have hw0:=gr.l1
 obtain ⟨j,hj⟩:∃ j:Nat,d % (r.ws.length:Int)=(j:Int):=⟨(d % (r.ws.length:Int)).toNat,by have:=qT d (show (r.ws.length:Int)≠0 by omega);omega⟩
 have hjl:j < r.ws.length:=by have:=qR d (show 0 < (r.ws.length:Int) by omega);omega
 have hw1:=qC hjl
 generalize r.ws[j]=w at hw1
 have hwm:w∈r.ws:=qN hw1
 have gw:=gr.ws w hwm
 have mw:=ml r hrm w hwm
 have pe:=zia hr1
 have hnew:r.nm∉qs.map (·.nm):=fun zz=>by
  have nd2:=I.perm.nodup_iff.mpr nd
  have hrr:r.nm∈rs.map (·.nm):=qS (qN hr1)
  exact (List.nodup_append.mp nd2).2.2 _ zz _ hrr rfl
 have hle:=pe.length_eq
 rw [qj] at hle
 have hql:=I.len
 refine ⟨rs.eraseIdx k,qs++[⟨r.nm,w.1,fr,w.2⟩],oS (.str r.nm),oS (.str r.kd),oS (.lst (r.ws.map dW)),oS (.str w.1),oS (.int w.2),?_,⟨by rw [qk,List.length_singleton,hql],?_,fun s hs=>I.sub s (List.mem_of_mem_eraseIdx hs),fun q hq=>?_,?_,fun q hq=>?_⟩,by omega,by simp⟩
 ·unfold evB
  refine (zsH (i:=2) (k:=k) (ds:=rs.map zaO) (d:=zaO r) (ρ':=dwE ss c (rs.eraseIdx k) qs fr a (oS (.int d)) (oS (.str r.nm)) (oS (.str r.kd)) (oS (.lst (r.ws.map dW))) u v) rfl (ztQ (ds:=rs.map zaO) rfl (zax (x:=.int d) (y:=.int (rs.length:Int)) rfl (zaL (zaf rfl zat) ?_) ?_) rfl) (by omega) (by rw [qm,hr1];rfl) ?_).trans ?_
  ·show some (D.int (((rs.map zaO).length:Nat):Int))=_
   rw [qg]
  ·rw [zcc (by omega),hk]
  ·rw [zjz];rfl
  refine (zp1 (d:=dW w) (ρ':=dwE ss c (rs.eraseIdx k) qs fr a (oS (.int d)) (oS (.str r.nm)) (oS (.str r.kd)) (oS (.lst (r.ws.map dW))) (oS (.str w.1)) (oS (.int w.2))) (zax (y:=.int (j:Int)) rfl (zax (x:=.int d) (y:=.int (r.ws.length:Int)) rfl (zaL (zaf rfl zat) ?_) ?_) ?_) rfl).trans ?_
  ·show some (D.int (((r.ws.map dW).length:Nat):Int))=_
   rw [qg]
  ·rw [zcc (by omega),hj]
  ·rw [ixL,qm,hw1];rfl
  have ep:(qs++[(⟨r.nm,w.1,fr,w.2⟩:PlT)]).map kP=qs.map kP++[(.inr r.nm,.tup [.str w.1,.int fr])]:=by rw [List.map_append];rfl
  have en:(qs++[(⟨r.nm,w.1,fr,w.2⟩:PlT)]).map kN=qs.map kN++[(.inr r.nm,.int (fr+w.2))]:=by rw [List.map_append];rfl
  refine (zbr (zmy (i:=3) (l:=qs.map kP) (x:=r.nm) (d:=.tup [.str w.1,.int fr]) rfl (zcH rfl rfl) rfl (by rw [qg,hql];omega) fun kv hkv=>?_)).trans ((zmy (i:=4) (l:=qs.map kN) (x:=r.nm) (d:=.int (fr+w.2)) rfl rfl rfl (by rw [qg,hql];omega) fun kv hkv=>?_).trans ?_)
  ·obtain ⟨q,hq,rfl⟩:=List.mem_map.mp hkv
   intro e
   exact hnew (by rw [← Sum.inr.inj e];exact qS hq)
  ·obtain ⟨q,hq,rfl⟩:=List.mem_map.mp hkv
   intro e
   exact hnew (by rw [← Sum.inr.inj e];exact qS hq)
  ·unfold dwE
   rw [ep,en]
   rfl
 ·rw [List.map_append,List.append_assoc]
  exact (List.Perm.append_left _ (pe.map (·.nm)).symm).trans I.perm
 ·rcases List.mem_append.mp hq with zz | zz
  ·exact I.way q zz
  ·rw [List.mem_singleton.mp zz]
   exact ⟨r,hrm,rfl,hwm⟩
 ·refine List.pairwise_append.mpr ⟨I.seq,List.pairwise_singleton _ _,fun p hp q hq=>?_⟩
  rw [List.mem_singleton.mp hq]
  exact f1 p hp
 ·rcases List.mem_append.mp hq with zz | zz
  ·have:=I.lo q zz
   exact ⟨this.1,this.2.1,by omega⟩
  ·rw [List.mem_singleton.mp zz]
   exact ⟨f2,gw.2.1,by show fr+w.2+36<=_;omega⟩
theorem zqV (hq:qs≠[]) (hd:0<=d/\d < 7) (I:PlInv ss m rs qs) :
  ∃ fr',odB (dwE ss c rs qs fr a (oS (.int d)) x y z u v)=some (.nx,dwE ss c rs qs fr' a (oS (.int d)) x y z u v)/\(∀ q∈qs,q.st+q.ln<=fr')/\0<=fr'/\fr'<=45*(m:Int):=by
 obtain ⟨t1,t2⟩:=zmj (ns:=qs.map fun q=>q.st+q.ln) (by simpa using hq)
 obtain ⟨q0,hq0,e0⟩:=List.mem_map.mp t1
 have l0:=I.lo q0 hq0
 have hdd:0<=d*d/\d*d<=36:=by
  have:d=0\/d=1\/d=2\/d=3\/d=4\/d=5\/d=6:=by omega
  rcases this with rfl | rfl | rfl | rfl | rfl | rfl | rfl <;> decide
 have wq:∀ q∈qs,q.st+q.ln<=zjf (qs.map fun q=>q.st+q.ln):=fun q hq=>t2 _ (qS (f:=fun q:PlT=>q.st+q.ln) hq)
 have e1:q0.st+q0.ln=zjf (qs.map fun q=>q.st+q.ln):=e0
 refine ⟨zjf (qs.map fun q=>q.st+q.ln)+d*d,?_,fun q hq=>by have:=wq q hq;omega,?_,by omega⟩
 ·unfold odB
  exact zfw (zrN (ds:=qs.map kN) (d:=.int (zjf (qs.map fun q=>q.st+q.ln)+d*d)) rfl (zax (zpp rfl (zq8 hq)) (zax (x:=.int d) (y:=.int d) rfl rfl (zgl (.inl (by omega)))) rfl) rfl)
 ·omega
theorem zuQ:(2:Int) ^ 63=9223372036854775808:=by decide +kernel
theorem zvK {k:Nat} (h:k<=20):zdX (.lst [.int 7]) (.int (k:Int))=some (.lst ((List.replicate k (7:Int)).map D.int)):=by
 rw [zlb (x:=[.int 7]) (j:=(k:Int)) (by rw [zuQ];refine ⟨by omega,by omega,?_⟩;rw [Int.toNat_natCast];exact szN (k:=20) (by simpa using h) (by decide)),Int.toNat_natCast,List.flatten_replicate_singleton,List.map_replicate]
end
theorem zo0 {ss:List StepT} {bn:List Str} {h:Int} (c:Int) (g:∀ s∈ss,GoodS bn h s) (nd:(ss.map (·.nm)).Nodup) (ml:∀ s∈ss,∀ w∈s.ws,w.2<=9) (hl:ss.length<=7) :
  ∃ qs:List PlT,zbz [.lst (ss.map zaO),.int c]=some (.tup [.dk (qs.map kP),.dk (qs.map kN)])/\PlInv ss ss.length [] qs:=by
 obtain ⟨ds,e1,hd,hb⟩:=zdf c 3 (by omega) (List.replicate (2*ss.length) 7) (fun s hs=>by rw [List.eq_of_mem_replicate hs];omega) (by rw [List.length_replicate];omega)
 rw [List.length_replicate] at hd
 obtain ⟨ρ',h1,rs,qs,fr,a,b,x,y,z,u,v,h2,I,h3,h4⟩:=zc0 (gg:=zbC 2 (zau (zaJ 6) (zau (zaJ 7) zbB))) (body:=sIf (toB (b2 eqD (b2 zb6 (vSh 6) (vC (.int 2))) (vC (.int 0)))) evB odB) (xs:=(ds.map D.int).mapIdx fun i d=>D.tup [.int i,d]) (ρ:=dwE ss c ss [] 0 none none none none none none none)
  (fun i ρ=>∃ rs qs fr a b x y z u v,ρ=dwE ss c rs qs fr a b x y z u v/\PlInv ss ((i+1) / 2) rs qs/\rs.length+(i+1) / 2=ss.length/\(i % 2=0->(∀ q∈qs,q.st+q.ln<=fr)/\0<=fr/\fr<=45*((i / 2:Nat):Int)))
  ⟨ss,[],0,none,none,none,none,none,none,none,rfl,⟨rfl,.refl _,fun r hr=>hr,fun q hq=>(by cases hq),List.Pairwise.nil,fun q hq=>(by cases hq)⟩,rfl,fun _=>⟨fun q hq=>(by cases hq),Int.le_refl _,Int.le_refl _⟩⟩ (fun i t ρ ht hI=>by
   obtain ⟨rs,qs,fr,a,b,x,y,z,u,v,rfl,I,h3,h4⟩:=hI
   obtain ⟨t',ht',rfl⟩:=zdZ ht
   rw [qm] at ht'
   obtain ⟨d,hdi,rfl⟩:=oMd ht'
   have hi:i < 2*ss.length:=by rw [← hd];exact (List.getElem?_eq_some_iff.mp hdi).1
   obtain ⟨d',hdi',p1,p2⟩:=hb i 7 (by rw [List.getElem?_replicate,qU hi])
   have edd:d=d':=by rw [hdi] at hdi';exact qG hdi'
   subst edd
   have ti:toB (b2 eqD (b2 zb6 (vSh 6) (vC (.int 2))) (vC (.int 0))) (dwE ss c rs qs fr (oS (.int (i:Int))) (oS (.int d)) x y z u v)=some (decide ((i:Int) % 2=0)):=za4 (zax (zax (x:=.int (i:Int)) rfl rfl (zcc (by decide))) rfl rfl)
   by_cases he:i % 2=0
   ·obtain ⟨f1,f2,f3⟩:=h4 he
    have hm:(i+1) / 2=i / 2:=by omega
    rw [hm] at I h3
    have hr0:rs≠[]:=fun e0=>by rw [e0] at h3;simp at h3;omega
    obtain ⟨rs',qs',x',y',z',u',v',t1,t2,t3,t4⟩:=zro (c:=c) (a:=oS (.int (i:Int))) (x:=x) (y:=y) (z:=z) (u:=u) (v:=v) g nd ml (m:=i / 2) (by omega) hr0 (by omega) p1 I f1 f2 f3
    rw [qQ (by omega)] at ti
    refine ⟨_,_,rfl,(zde ti).trans ((qU rfl).trans t1),rs',qs',_,_,_,_,_,_,_,_,rfl,?_,by omega,fun z=>by omega⟩
    rw [show (i+1+1) / 2=i / 2+1 by omega]
    exact t2
   ·rw [qL (by omega)] at ti
    have hq0:qs≠[]:=fun e0=>by
     have:=I.len
     rw [e0] at this
     simp at this
     omega
    obtain ⟨fr',t1,t2,t3,t4⟩:=zqV (c:=c) (fr:=fr) (a:=oS (.int (i:Int))) (x:=x) (y:=y) (z:=z) (u:=u) (v:=v) hq0 ⟨p1,p2⟩ I
    refine ⟨_,_,rfl,(zde ti).trans ((qV qt).trans t1),rs,qs,fr',_,_,_,_,_,_,_,rfl,?_,by omega,fun _=>⟨t2,t3,by rw [show (i+1) / 2=(i+1) / 2 from rfl];exact t4⟩⟩
    rw [show (i+1+1) / 2=(i+1) / 2 by omega]
    exact I)
 rw [List.length_mapIdx,qg,hd] at I h3
 have hr:rs=[]:=List.length_eq_zero_iff.mp (by omega)
 subst hr
 rw [show (2*ss.length+1) / 2=ss.length by omega] at I
 refine ⟨qs,?_,I⟩
 unfold zbz zeB
 refine zaR (ρ':=[oS (.lst (ss.map zaO)),oS (.int c),some (.own []),oS (.dk (qs.map kP)),oS (.dk (qs.map kN)),oS (.int fr),a,b,x,y,z,u,v]) [oS (.lst (ss.map zaO)),oS (.int c),none,none,none,none,none,none,none,none,none,none,none] rfl ?_
 refine (ziC (ds:=ss.map zaO) ?_).trans ?_
 ·rfl
 refine (zbr (ρ1:=[oS (.lst (ss.map zaO)),oS (.int c),some (.own (ss.map zaO)),some (.odk []),none,none,none,none,none,none,none,none,none]) rfl).trans ?_
 refine (zbr (ρ1:=[oS (.lst (ss.map zaO)),oS (.int c),some (.own (ss.map zaO)),some (.odk []),some (.odk []),none,none,none,none,none,none,none,none]) rfl).trans ?_
 refine (zaD (d:=.int 0) rfl).trans ?_
 refine (zbr ((zct (xs:=(ds.map D.int).mapIdx fun i d=>D.tup [.int i,d]) ?_).trans (h1.trans (by rw [h2])))).trans ?_
 ·have em:cF zai (zaa (vSh 1) (zaa (vC (.int 3)) (zaa (b2 zdX (za1 (szF (zaa (vC (.int 7)) zal))) (b2 zdX (vC (.int 2)) (cF zdK (zaa (vSh 0) zal)))) zal))) (dwE ss c ss [] 0 none none none none none none none)=some (.lst (ds.map D.int)):=by
   refine zaL (zaf rfl (zaf (d:=.int ((3:Nat):Int)) rfl (zaf (zax (x:=.lst [.int 7]) (y:=.int ((2*ss.length:Nat):Int)) rfl (zax (x:=.int 2) (y:=.int (ss.length:Int)) rfl (zaL (zaf rfl zat) ?_) ?_) (zvK (by omega))) zat))) e1
   ·show some (D.int (((ss.map zaO).length:Nat):Int))=_
    rw [qg]
   ·rw [zgl (.inl (by omega))]
    congr 2
  show (cF zai _ _).bind _=_
  rw [em]
  rfl
 ·refine (show zlI 4 _ _=_ from rfl:_=_).trans ?_
  rfl
end Law
end
section
namespace Law
open PySem L2
section
variable {bs:List BenchT} {ss:List StepT} {js:List JobT} {us:List SetT} {ls:List LinkT} {ks:List StockT} {h:Int}
theorem zqj (g:Good bs ss [] [] [] [] h):zcj [zpU bs ss [] [] [] [] h]=some (zgA bs ss [] [] [] [] h) :=
 zaR [oS (zpU bs ss [] [] [] [] h)] rfl (zaS (zaL (zaf (zax rfl rfl (ixL _ 0)) (zaf (zax rfl rfl (ixL _ 1)) (zaf (zax rfl rfl (ixL _ 2)) (zaf (zax rfl rfl (ixL _ 3)) (zaf (zax rfl rfl (ixL _ 4)) (zaf (zax rfl rfl (ixL _ 5)) (zaf (zax rfl rfl (ixL _ 6)) zat))))))) (zrj g)))
theorem zeT {fo:FE} {ρ:zaZ} {f:Str} {d:D} (i:Nat) (h1:fo ρ=some (zgA bs ss js us ls ks h)) (h2:(zsb bs ss js us ls ks h)[i]?=some (f,d)):zlm "Shop" f fo ρ=some d:=by
 unfold zlm
 rw [h1]
 show (if ("Shop":Str)="Shop" then (zsb bs ss js us ls ks h).lookup f else none)=some d
 rw [qU rfl]
 exact zgM (by rw [zjJ];exact ziK) h2
theorem zdc {F:FQ} {fo:FE} {fr:FA} {ρ:zaZ} {m:Str} {ds:List D} {d:D} (hm:m∉zfD) (h1:fo ρ=some (zgA bs ss js us ls ks h)) (h2:fr ρ=some ds) (h3:F (zgA bs ss js us ls ks h::ds)=some d):zce "Shop" m F fo fr ρ=some d:=by
 have hno:(zsb bs ss js us ls ks h).lookup m=none:=ziF (by rw [zjJ];exact hm)
 unfold zce
 rw [h1]
 show (if ("Shop":Str)="Shop"/\(zsb bs ss js us ls ks h).lookup m=none then (fr ρ).bind fun ds=>F (zgA bs ss js us ls ks h::ds) else none)=_
 rw [qU ⟨rfl,hno⟩,h2]
 exact h3
theorem zoH {α:Type} {f:α->D} {nm:α->Str} {xs:List α} {fo:FE} {ρ:zaZ} {fv:List (Option Nat)} (hf:∀ x,∃ r,f x=.tup (.str (nm x)::r)) (h1:fo ρ=some (.lst (xs.map f))) (h2:xs.length<=sizeLine) (h3:zet fv ρ=[none]) :
  za1 (zaP (itF fo) (zaJ 0) tT (b2 ixD (vSh 0) (vC (.int 0))) fv) ρ=some (.lst ((xs.map nm).map D.str)):=by
 have hc:=zb7 (fi:=itF fo) (fe:=b2 ixD (vSh 0) (vC (.int 0))) (fv:=fv) (ρ:=ρ) (r:=[]) (a:=none) (xs:=xs.map f) (f:=fun d=>match d with | .tup (x::_)=>x | _=>.non) (by unfold itF;rw [h1];rfl) (by rw [qg];exact h2) h3 (fun x hx=>by
  obtain ⟨y,_,rfl⟩:=List.mem_map.mp hx
  obtain ⟨r,e⟩:=hf y
  simp only [b2,vSh,vC,qd,qc,e,zma])
 rw [hc]
 congr 2
 rw [qq,qq]
 refine List.map_congr_left fun x _=>?_
 obtain ⟨r,e⟩:=hf x
 simp [e]
theorem zdL (hl:ss.length<=40):zah [zgA bs ss js us ls ks h]=some (.lst ((ss.map (·.nm)).map D.str)) :=
 zaR [oS (zgA bs ss js us ls ks h)] rfl (zaS (zoH (f:=zaO) (nm:=(·.nm)) (xs:=ss) (fun x=>⟨_,rfl⟩) (zeT 1 rfl rfl) (szN hl (by decide)) rfl))
theorem zfr {α:Type} {nm:α->Str} {f:α->D}:∀ {xs:List α} {s:α},(xs.map nm).Nodup->s∈xs->zhF (xs.map fun x=>((.inr (nm x):Key),f x)) (.inr (nm s))=some (f s)
 | [],s,_,hs=>by cases hs
 | x::r,s,nd,hs=>by
  rw [qp,List.nodup_cons] at nd
  unfold zhF
  rw [qp,List.find?_cons]
  by_cases e:nm x=nm s
  ·have hxs:s=x:=by
    rcases List.mem_cons.mp hs with q | q
    ·exact q
    ·exact absurd (qS (f:=nm) q) (by rw [← e];exact nd.1)
   subst hxs
   simp
  ·have hs':s∈r:=by
    rcases List.mem_cons.mp hs with q | q
    ·subst q;exact absurd rfl e
    ·exact q
   have hne:¬ ((.inr (nm x):Key)=.inr (nm s)):=fun z=>e (Sum.inr.inj z)
   simp only [qL hne]
   exact zfr nd.2 hs'
theorem zoa {s:StepT} (g:Good bs ss js us ls ks h) (hs:s∈ss):zbd [zgA bs ss js us ls ks h,.str s.nm]=some (.lst (s.ws.map dW)):=by
 have gs:=g.s s hs
 refine zaR [oS (zgA bs ss js us ls ks h),oS (.str s.nm)] rfl (zaS (zaL (zaf (zax (zax (x:=.dk (ss.map fun s=>(.inr s.nm,zaO s))) (z:=zaO s) (zeT 8 rfl rfl) rfl ?_) rfl zvg) zat) (zhe (zvb (by have:=gs.l4;omega)))))
 show zhF (ss.map fun s=>((.inr s.nm:Key),zaO s)) (.inr s.nm)=_
 exact zfr g.sn hs
end
def prS:List StepT->List (StepT×StepT)
 | []=>[]
 | s::r=>r.map (fun t=>(s,t))++prS r
def dP (p:StepT×StepT):D:=.tup [.str p.1.nm,.str p.2.nm]
theorem zmB:∀ {ss:List StepT} {p:StepT×StepT},p∈prS ss->p.1∈ss/\p.2∈ss
 | [],_,h=>by cases h
 | s::r,p,h=>by
  rcases List.mem_append.mp h with q | q
  ·obtain ⟨t,ht,rfl⟩:=List.mem_map.mp q
   exact ⟨qh,qi _ ht⟩
  ·obtain ⟨h1,h2⟩:=zmB q
   exact ⟨qi _ h1,qi _ h2⟩
theorem zmC:∀ {ss:List StepT} {n:Nat},ss.length<=n->(prS ss).length<=ss.length*n
 | [],_,_=>by simp [prS]
 | s::r,n,h=>by
  rw [qj] at h
  have:=zmC (ss:=r) (n:=n) (by omega)
  show (r.map (fun t=>(s,t))++prS r).length<=_
  rw [qk,qg,qj,Nat.succ_mul]
  omega
theorem zrn {α:Type} {g:α->D} {xs ys:List α} {i:Nat} {f:FE} {ρ:zaZ} (h1:ρ[i]?=some (some (.own (xs.map g)))) (h2:f ρ=some (.lst (ys.map g))) (h3:xs.length+ys.length<=10000):zr1 i f ρ=some (.nx,ρ.set i (some (.own ((xs++ys).map g)))):=by
 unfold zr1
 rw [h1]
 show (f ρ).bind _=_
 rw [h2,qc]
 show (if _ then _ else _)=_
 rw [qU (by rw [qg,qg];unfold sizeLine;omega),List.map_append]
theorem zrt {α:Type} {l:List α} {i:Nat} {x:α} (h:l[i]?=some x):l.drop i=x::l.drop (i+1):=by
 obtain ⟨h1,h2⟩:=List.getElem?_eq_some_iff.mp h
 rw [List.drop_eq_getElem_cons h1,h2]
abbrev pE (ss:List StepT) (ps:List (StepT×StepT)) (a b:Option Slot):zaZ:=[oS (.lst ((ss.map (·.nm)).map D.str)),some (.own (ps.map dP)),a,b]
theorem zoD (ss:List StepT) (hl:ss.length<=40):zco [.lst ((ss.map (·.nm)).map D.str)]=some (.lst ((prS ss).map dP)):=by
 have hpl:=zmC (ss:=ss) (n:=40) hl
 obtain ⟨ρ',h1,ps,a,b,h2,h3⟩:=zc0 (gg:=zbC 2 (zau (zaJ 2) (zau (zaJ 3) zbB))) (body:=(zr1 1 (za1 (zaP (itF (slF (vSh 0) (pS (b2 zbv (vSh 2) (vC (.int 1)))) pN)) (zaJ 0) tT (zbW (szF (zaa (vSh 1) (zaa (vSh 0) zal)))) [none,some 3])))) (xs:=((ss.map (·.nm)).map D.str).mapIdx fun i d=>D.tup [.int i,d]) (ρ:=pE ss [] none none)
  (fun i ρ=>∃ ps a b,ρ=pE ss ps a b/\ps++prS (ss.drop i)=prS ss) ⟨[],none,none,rfl,rfl⟩ (fun i x ρ hx hI=>by
   obtain ⟨ps,a,b,rfl,hps⟩:=hI
   obtain ⟨y,hy,rfl⟩:=zdZ hx
   rw [qq,qm] at hy
   obtain ⟨s,hsi,rfl⟩:=oMd hy
   have hi:i < ss.length:=(List.getElem?_eq_some_iff.mp hsi).1
   have hdr:=zrt hsi
   have hlen:ps.length+(ss.drop (i+1)).length<=10000:=by
    have:=congrArg List.length hps
    rw [qk] at this
    rw [List.length_drop]
    omega
   have e:za1 (zaP (itF (slF (vSh 0) (pS (b2 zbv (vSh 2) (vC (.int 1)))) pN)) (zaJ 0) tT (zbW (szF (zaa (vSh 1) (zaa (vSh 0) zal)))) [none,some 3]) (pE ss ps (oS (.int i)) (oS (.str s.nm)))=some (.lst (((ss.drop (i+1)).map fun t=>(s,t)).map dP)):=by
    have e0:itF (slF (vSh 0) (pS (b2 zbv (vSh 2) (vC (.int 1)))) pN) (pE ss ps (oS (.int i)) (oS (.str s.nm)))=some ((ss.drop (i+1)).map fun t=>D.str t.nm):=by
     have:=zqg (f:=vSh 0) (g:=b2 zbv (vSh 2) (vC (.int 1))) (ρ:=pE ss ps (oS (.int i)) (oS (.str s.nm))) (d:=(i:Int)+1) rfl (zax rfl rfl rfl) (by omega)
     unfold itF
     rw [this]
     show some _=_
     rw [show ((i:Int)+1).toNat=i+1 by omega,qq,List.map_drop]
     rfl
    refine (zb7 (r:=[oS (.str s.nm)]) (a:=none) (f:=fun d=>.tup [.str s.nm,d]) e0 (by rw [qg,List.length_drop];exact szN (k:=40) (by omega) (by decide)) rfl fun x hx=>zcH rfl rfl).trans ?_
    rw [qq,qq]
    rfl
   refine ⟨_,_,rfl,zrn rfl e (by rw [qg];exact hlen),ps++(ss.drop (i+1)).map (fun t=>(s,t)),_,_,rfl,?_⟩
   rw [← hps,hdr,List.append_assoc]
   rfl)
 rw [List.length_mapIdx,qg,qg,List.drop_length] at h3
 have h4:ps=prS ss:=by rw [← h3];simp [prS]
 rw [h4] at h2
 exact zaR [oS (.lst ((ss.map (·.nm)).map D.str)),none,none,none] rfl (zfB.trans ((zbr ((zct (xs:=((ss.map (·.nm)).map D.str).mapIdx fun i d=>D.tup [.int i,d]) rfl).trans (h1.trans (by rw [h2])))).trans ((zeu rfl).trans (zaS (f:=vSh 1) rfl))))
end Law
end
section
namespace Law
open PySem L2
abbrev sP (bs:List BenchT) (ss:List StepT) (h:Int):D:=zgA bs ss [] [] [] [] h
structure Sch (ss:List StepT) (h:Int) (q:Str->PlT):Prop where
 way:∀ s∈ss,((q s.nm).bn,(q s.nm).ln)∈s.ws
 lo:∀ s∈ss,0<=(q s.nm).st/\1<=(q s.nm).ln/\(q s.nm).st+(q s.nm).ln<=h
 apart:∀ s∈ss,∀ t∈ss,s.nm≠t.nm->(q s.nm).st+(q s.nm).ln<=(q t.nm).st\/(q t.nm).st+(q t.nm).ln<=(q s.nm).st
def vS (q:Str->PlT) (x:Str):D:=.tup [.str (q x).bn,.int (q x).st]
def vE (q:Str->PlT) (x:Str):D:=.int ((q x).st+(q x).ln)
def kvS (q:Str->PlT) (os:List Str):List (Key×D):=os.map fun x=>(.inr x,vS q x)
def kvE (q:Str->PlT) (os:List Str):List (Key×D):=os.map fun x=>(.inr x,vE q x)
theorem zfN {f:Str->D} {os:List Str} {x:Str} (nd:os.Nodup) (hx:x∈os):zhF (os.map fun x=>((.inr x:Key),f x)) (.inr x)=some (f x) :=
 zfr (nm:=fun x:Str=>x) (f:=f) (xs:=os) (s:=x) (by rw [List.map_id'];exact nd) hx
section
variable {bs:List BenchT} {ss:List StepT} {h:Int} {q:Str->PlT} {os:List Str}
theorem zvP (nd:os.Nodup) {x:Str} (hx:x∈os):zbw (.fdk (kvS q os)) (.str x)=some (vS q x):=by
 show (some (zhF (kvS q os) (.inr x))).bind id=_
 rw [qc]
 exact zfN nd hx
theorem zvQ (nd:os.Nodup) {x:Str} (hx:x∈os):zbw (.dk (kvE q os)) (.str x)=some (vE q x):=by
 show (some (zhF (kvE q os) (.inr x))).bind id=_
 rw [qc]
 exact zfN nd hx
theorem zmQ:∀ {ss:List StepT} {s t:StepT},(ss.map (·.nm)).Nodup->s∈ss->t∈ss->s.nm=t.nm->s=t
 | [],_,_,_,hs,_,_=>by cases hs
 | x::r,s,t,nd,hs,ht,e=>by
  rw [qp,List.nodup_cons] at nd
  rcases List.mem_cons.mp hs with a | a <;> rcases List.mem_cons.mp ht with b | b
  ·rw [a,b]
  ·exact absurd (qS (f:=fun s:StepT=>s.nm) b) (by rw [← e,a];exact nd.1)
  ·exact absurd (qS (f:=fun s:StepT=>s.nm) a) (by rw [e,b];exact nd.1)
  ·exact zmQ nd.2 a b e
theorem zle {A B:D} {b:Str} {l:Int}:∀ (ws:List (Str×Int)) (x y:Option Slot),(ws.map (·.1)).Nodup->(b,l)∈ws->∃ ρ',zlX (zbC 2 (zau (zaJ 3) (zau (zaJ 4) zbB))) (sIf (toB (b2 eqA (vSh 3) (vSh 2))) (zbb (vSh 4)) zbX) (ws.map dW) [oS A,oS B,oS (.str b),x,y]=some (.rt (.int l),ρ')
 | [],_,_,_,hw=>by cases hw
 | w::r,x,y,nd,hw=>by
  rw [qp,List.nodup_cons] at nd
  have te:toB (b2 eqA (vSh 3) (vSh 2)) [oS A,oS B,oS (.str b),oS (.str w.1),oS (.int w.2)]=some (decide (w.1=b)):=za4 (zax rfl rfl (znr _ _))
  rw [qp]
  by_cases e:w.1=b
  ·have ew:w=(b,l):=by
    rcases List.mem_cons.mp hw with a | a
    ·exact a.symm
    ·exact absurd (qS (f:=fun w:Str×Int=>w.1) a) (by rw [← e];exact nd.1)
   rw [qQ e] at te
   have eb:sIf (toB (b2 eqA (vSh 3) (vSh 2))) (zbb (vSh 4)) zbX [oS A,oS B,oS (.str b),oS (.str w.1),oS (.int w.2)]=some (.rt (.int w.2),_):=(zde te).trans ((qU rfl).trans (zaS (f:=vSh 4) rfl))
   rw [ew] at eb ⊢
   exact ⟨_,by unfold zlX;rw [show zbC 2 (zau (zaJ 3) (zau (zaJ 4) zbB)) (dW (b,l)) [oS A,oS B,oS (.str b),x,y]=some [oS A,oS B,oS (.str b),oS (.str b),oS (.int l)] from rfl,qc,eb];rfl⟩
  ·have hw':(b,l)∈r:=by
    rcases List.mem_cons.mp hw with a | a
    ·exact absurd (by rw [← a]) e
    ·exact a
   rw [qL e] at te
   have eb:sIf (toB (b2 eqA (vSh 3) (vSh 2))) (zbb (vSh 4)) zbX [oS A,oS B,oS (.str b),oS (.str w.1),oS (.int w.2)]=some (.nx,_):=(zde te).trans rfl
   obtain ⟨ρ',ih⟩:=zle (A:=A) (B:=B) r (oS (.str w.1)) (oS (.int w.2)) nd.2 hw'
   exact ⟨ρ',by unfold zlX;rw [show zbC 2 (zau (zaJ 3) (zau (zaJ 4) zbB)) (dW w) [oS A,oS B,oS (.str b),x,y]=some [oS A,oS B,oS (.str b),oS (.str w.1),oS (.int w.2)] from rfl,qc,eb];exact ih⟩
theorem zpG (g:Good bs ss [] [] [] [] h) {s:StepT} (hs:s∈ss) {b:Str} {l:Int} (hw:(b,l)∈s.ws):zaT [sP bs ss h,.str s.nm,.str b]=some (.int l):=by
 obtain ⟨ρ',e⟩:=zle (A:=sP bs ss h) (B:=.str s.nm) s.ws none none (g.s s hs).nd hw
 unfold zaT zfn
 refine zaR (ρ':=ρ') [oS (sP bs ss h),oS (.str s.nm),oS (.str b),none,none] rfl ?_
 have ef:zeR (itF (zce "Shop" "ways_of" zbd (vSh 0) (zaa (vSh 1) zal))) (zbC 2 (zau (zaJ 3) (zau (zaJ 4) zbB))) (sIf (toB (b2 eqA (vSh 3) (vSh 2))) (zbb (vSh 4)) zbX) [oS (sP bs ss h),oS (.str s.nm),oS (.str b),none,none]=some (.rt (.int l),ρ'):=by
  refine (zct (xs:=s.ws.map dW) ?_).trans e
  have em:=zdc (bs:=bs) (ss:=ss) (js:=[]) (us:=[]) (ls:=[]) (ks:=[]) (h:=h) (F:=zbd) (m:="ways_of") (fo:=vSh 0) (fr:=zaa (vSh 1) zal) (ρ:=[oS (sP bs ss h),oS (.str s.nm),oS (.str b),none,none]) (by decide +kernel) rfl (zaf rfl zat) (zoa g hs)
  unfold itF;rw [em];rfl
 unfold zay
 rw [ef]
 rfl
theorem zfC (g:Good bs ss [] [] [] [] h) {ρ:zaZ} (h0:vSh 0 ρ=some (sP bs ss h)):itF (zce "Shop" "step_names" zah (vSh 0) zal) ρ=some ((ss.map (·.nm)).map D.str):=by
 have em:=zdc (bs:=bs) (ss:=ss) (js:=[]) (us:=[]) (ls:=[]) (ks:=[]) (h:=h) (F:=zah) (m:="step_names") (fo:=vSh 0) (fr:=zal) (ρ:=ρ) (by decide +kernel) h0 zat (zdL (bs:=bs) (ss:=ss) (js:=[]) (us:=[]) (ls:=[]) (ks:=[]) (h:=h) g.sl.2)
 unfold itF;rw [em];rfl
end
end Law
end
section
namespace Law
open PySem L2
theorem zeJ {gg:FG} {body:FS} {xs:List D} {ρ:zaZ} (P:zaZ->Prop) (h0:P ρ) (hs:∀ x∈xs,∀ ρ,P ρ->∃ ρ1 ρ2,gg x ρ=some ρ1/\body ρ1=some (.nx,ρ2)/\P ρ2):∃ ρ',zlX gg body xs ρ=some (.nx,ρ')/\P ρ' :=
 zc0 (fun _=>P) h0 fun i x ρ hx hP=>hs x (qN hx) ρ hP
theorem zor {n:Nat} {g:FS} {ds:List D} {l:List (Key×D)} (ρ:zaZ) {ρ':zaZ} (e:ds.map (fun d=>some (Slot.sh d))++List.replicate n none=ρ) (h:g ρ=some (.od l,ρ')):zlJ n g ds=some l:=by
 subst e;unfold zlJ;rw [h];rfl
theorem zqq {i:Nat} {ρ:zaZ} {l:List (Key×D)} (hi:ρ[i]?=some (some (.odk l))):zmt i ρ=some (.od l,ρ):=by
 unfold zmt;rw [hi]
theorem zoG {x:Str} {ns:List Str} (hx:zbG x=true) (hn:∀ y∈ns,zbG y=true):zff (.str x) (.lst (ns.map D.str))=some (.bl (!decide (x∈ns))):=by
 have sh:SeqAt.shaped (.str x)=true:=by simp [SeqAt.shaped,PyData.canLay0,zir hx,PyData.depth]
 simp only [zff,inX,pdD,zg2,qf,qc,sh,zeI hn,and_self,if_true,zjc]
section
variable {bs:List BenchT} {ss:List StepT} {h:Int} {q:Str->PlT} {os:List Str}
structure Ok (bs:List BenchT) (ss:List StepT) (h:Int) (q:Str->PlT) (os:List Str):Prop where
 g:Good bs ss [] [] [] [] h
 nb:∀ b∈bs,b.br=[]
 s:Sch ss h q
 p:os.Perm (ss.map (·.nm))
theorem Ok.nd (o:Ok bs ss h q os):os.Nodup:=o.p.nodup_iff.mpr o.g.sn
theorem Ok.mem (o:Ok bs ss h q os) {s:StepT} (hs:s∈ss):s.nm∈os:=o.p.mem_iff.mpr (qS hs)
theorem Ok.gS (o:Ok bs ss h q os) {s:StepT} (hs:s∈ss) {f:FE} {g:FE} {ρ:zaZ} (h1:f ρ=some (.fdk (kvS q os))) (h2:g ρ=some (.str s.nm)):b2 zbw f g ρ=some (vS q s.nm):=zax h1 h2 (zvP o.nd (o.mem hs))
theorem Ok.gE (o:Ok bs ss h q os) {s:StepT} (hs:s∈ss) {f:FE} {g:FE} {ρ:zaZ} (h1:f ρ=some (.dk (kvE q (ss.map (·.nm))))) (h2:g ρ=some (.str s.nm)):b2 zbw f g ρ=some (vE q s.nm):=zax h1 h2 (zvQ o.g.sn (qS hs))
theorem zlB {f:FE} {ρ:zaZ} {x:Str} (h:f ρ=some (vS q x)):b2 ixD f (vC (.int 1)) ρ=some (.int (q x).st):=zax h rfl zpL
theorem zl6 {f:FE} {ρ:zaZ} {x:Str} (h:f ρ=some (vS q x)):b2 ixD f (vC (.int 0)) ρ=some (.str (q x).bn):=zax h rfl zma
theorem zld {x:D} (hx:x∈(ss.map (·.nm)).map D.str):∃ s∈ss,x=.str s.nm:=by
 obtain ⟨y,hy,rfl⟩:=List.mem_map.mp hx
 obtain ⟨s,hs,rfl⟩:=List.mem_map.mp hy
 exact ⟨s,hs,rfl⟩
theorem zns (o:Ok bs ss h q os):zaN [sP bs ss h,.fdk (kvS q os)]=some (kvE q (ss.map (·.nm))):=by
 obtain ⟨ρ',h1,a,b,h2⟩:=zc0 (gg:=zaJ 3) (body:=zay (zba 4 (b2 zbw (vSh 1) (vSh 3))) (zeS 2 (vSh 3) (b2 zbv (b2 ixD (vSh 4) (vC (.int 1))) (cF zaT (zaa (vSh 0) (zaa (vSh 3) (zaa (b2 ixD (vSh 4) (vC (.int 0))) zal))))))) (xs:=(ss.map (·.nm)).map D.str) (ρ:=[oS (sP bs ss h),oS (.fdk (kvS q os)),some (.odk []),none,none])
  (fun i ρ=>∃ a b,ρ=[oS (sP bs ss h),oS (.fdk (kvS q os)),some (.odk (kvE q ((ss.map (·.nm)).take i))),a,b]) ⟨none,none,rfl⟩ (fun i x ρ hx hI=>by
   obtain ⟨a,b,rfl⟩:=hI
   rw [qm] at hx
   obtain ⟨y,hy,rfl⟩:=oMd hx
   have hy':=hy
   rw [qm] at hy'
   obtain ⟨s,hs,rfl⟩:=oMd hy'
   have hsm:s∈ss:=qN hs
   have ht:(ss.map (·.nm)).take (i+1)=(ss.map (·.nm)).take i++[s.nm]:=by rw [List.take_succ,hy];rfl
   have nd2:((ss.map (·.nm)).take (i+1)).Nodup:=o.g.sn.sublist (List.take_sublist _ _)
   rw [ht] at nd2
   refine ⟨_,_,rfl,(zaD (d:=vS q s.nm) (o.gS hsm rfl rfl)).trans (zmy (i:=2) (l:=kvE q ((ss.map (·.nm)).take i)) (x:=s.nm) (d:=vE q s.nm) rfl (zax (zlB rfl) (zaL (zaf rfl (zaf rfl (zaf (zl6 rfl) zat))) (zpG o.g hsm (o.s.way s hsm))) rfl) rfl ?_ fun kv hkv e=>?_),oS (.str s.nm),oS (vS q s.nm),?_⟩
   ·have:=o.g.sl.2
    unfold kvE
    rw [qg,qD,qg]
    omega
   ·obtain ⟨z,hz,rfl⟩:=List.mem_map.mp hkv
    have ez:z=s.nm:=Sum.inr.inj e
    exact (List.nodup_append.mp nd2).2.2 z hz s.nm (List.mem_singleton.mpr rfl) ez
   ·rw [ht]
    unfold kvE
    rw [List.map_append]
    rfl)
 rw [qg,List.take_length] at h2
 unfold zaN zhy
 refine zor (ρ':=[oS (sP bs ss h),oS (.fdk (kvS q os)),some (.odk (kvE q (ss.map (·.nm)))),a,b]) [oS (sP bs ss h),oS (.fdk (kvS q os)),none,none,none] rfl ?_
 refine (zbr (ρ1:=[oS (sP bs ss h),oS (.fdk (kvS q os)),some (.odk []),none,none]) rfl).trans ?_
 exact (zbr ((zct (zfC o.g rfl)).trans (h1.trans (by rw [h2])))).trans (zqq rfl)
theorem zpl (o:Ok bs ss h q os):zbx [sP bs ss h,.fdk (kvS q os)]=some .non:=by
 have hnn:=o.g.snn
 have hol:os.length<=40:=by rw [o.p.length_eq,qg];exact o.g.sl.2
 obtain ⟨ρ',h1,a,h2⟩:=zeJ (gg:=zaJ 3) (body:=sIf (toB (b2 zo3 (vSh 3) (vSh 1))) (zbb (zbW (szF (zaa (vC (.str "step")) (zaa (vSh 3) zal))))) zbX) (xs:=(ss.map (·.nm)).map D.str) (ρ:=[oS (sP bs ss h),oS (.fdk (kvS q os)),oS (.lst ((ss.map (·.nm)).map D.str)),none,none])
  (fun ρ=>∃ a,ρ=[oS (sP bs ss h),oS (.fdk (kvS q os)),oS (.lst ((ss.map (·.nm)).map D.str)),a,none]) ⟨none,rfl⟩ (fun x hx ρ hI=>by
   obtain ⟨a,rfl⟩:=hI
   obtain ⟨s,hs,rfl⟩:=zld hx
   refine ⟨_,_,rfl,(zde (b:=false) (za4 (zax rfl rfl ?_))).trans rfl,oS (.str s.nm),rfl⟩
   show (some (zhF (kvS q os) (.inr s.nm))).map _=_
   rw [show zhF (kvS q os) (.inr s.nm:Key)=some (vS q s.nm) from zfN o.nd (o.mem hs)]
   rfl)
 have hc:za1 (zaP (itK (vSh 1)) (zaJ 0) (toB (b2 zff (vSh 0) (vSh 1))) (vSh 0) [none,some 2]) [oS (sP bs ss h),oS (.fdk (kvS q os)),oS (.lst ((ss.map (·.nm)).map D.str)),a,none]=some (.lst []):=by
  have e1:itK (vSh 1) [oS (sP bs ss h),oS (.fdk (kvS q os)),oS (.lst ((ss.map (·.nm)).map D.str)),a,none]=some (os.map D.str):=by
   show some ((kvS q os).map fun kv=>zoR kv.1)=_
   unfold kvS
   rw [qq];rfl
  have e2:=zpX (fe:=vSh 0) (ft:=toB (b2 zff (vSh 0) (vSh 1))) (r:=[oS (.lst ((ss.map (·.nm)).map D.str))]) (f:=fun x=>x) (p:=fun _=>false) (xs:=os.map D.str) (a:=none) (fun x hx=>by
   obtain ⟨y,hy,rfl⟩:=List.mem_map.mp hx
   have hym:y∈ss.map (·.nm):=o.p.mem_iff.mp hy
   refine ⟨za4 (zax rfl rfl ?_),fun z=>by cases z⟩
   rw [zoG (hnn y hym) hnn,qQ hym];rfl)
  rw [List.filter_eq_nil_iff.mpr (fun a _=>by simp)] at e2
  unfold za1 zaP
  rw [e1,qc,qU (by rw [qg];exact szN hol (by decide)),show zet [none,some 2] [oS (sP bs ss h),oS (.fdk (kvS q os)),oS (.lst ((ss.map (·.nm)).map D.str)),a,none]=[none,oS (.lst ((ss.map (·.nm)).map D.str))] from rfl,e2]
  rfl
 have em:zce "Shop" "step_names" zah (vSh 0) zal [oS (sP bs ss h),oS (.fdk (kvS q os)),none,none,none]=some (.lst ((ss.map (·.nm)).map D.str)):=zdc (bs:=bs) (ss:=ss) (js:=[]) (us:=[]) (ls:=[]) (ks:=[]) (h:=h) (by decide +kernel) rfl zat (zdL (bs:=bs) (ss:=ss) (js:=[]) (us:=[]) (ls:=[]) (ks:=[]) (h:=h) o.g.sl.2)
 unfold zbx zd2
 refine zaR (ρ':=[oS (sP bs ss h),oS (.fdk (kvS q os)),oS (.lst ((ss.map (·.nm)).map D.str)),a,oS (.lst [])]) [oS (sP bs ss h),oS (.fdk (kvS q os)),none,none,none] rfl ?_
 refine (zaD em).trans ((zbr ((zct (xs:=(ss.map (·.nm)).map D.str) rfl).trans (h1.trans (by rw [h2])))).trans ((zaD hc).trans ?_))
 exact (zcf (za4 (b:=false) rfl)).trans (zaS (f:=vC .non) rfl)
theorem zrI (o:Ok bs ss h q os):zbK [sP bs ss h,.fdk (kvS q os)]=some .non:=by
 obtain ⟨ρ',h1,a,b,c,h2⟩:=zeJ (gg:=zaJ 2) (body:=zay (zba 3 (b2 ixD (b2 zbw (vSh 1) (vSh 2)) (vC (.int 1)))) (zay (zba 4 (cF zaT (zaa (vSh 0) (zaa (vSh 2) (zaa (b2 ixD (b2 zbw (vSh 1) (vSh 2)) (vC (.int 0))) zal))))) (sIf (orT (toB (b2 isD (vSh 4) (vC .non))) (orT (toB (b2 ltD (vSh 3) (vC (.int 0)))) (toB (b2 gtD (b2 zbv (vSh 3) (vSh 4)) (zce "Shop" "last_moment" zaF (vSh 0) zal))))) (zbb (zbW (szF (zaa (vC (.str "way")) (zaa (vSh 2) zal))))) zbX))) (xs:=(ss.map (·.nm)).map D.str) (ρ:=[oS (sP bs ss h),oS (.fdk (kvS q os)),none,none,none])
  (fun ρ=>∃ a b c,ρ=[oS (sP bs ss h),oS (.fdk (kvS q os)),a,b,c]) ⟨none,none,none,rfl⟩ (fun x hx ρ hI=>by
   obtain ⟨a,b,c,rfl⟩:=hI
   obtain ⟨s,hs,rfl⟩:=zld hx
   have hlo:=o.s.lo s hs
   have e1:∀ {A:Option Slot} {B:Option Slot},orT (toB (b2 isD (vSh 4) (vC .non))) (orT (toB (b2 ltD (vSh 3) (vC (.int 0)))) (toB (b2 gtD (b2 zbv (vSh 3) (vSh 4)) (zce "Shop" "last_moment" zaF (vSh 0) zal)))) [oS (sP bs ss h),oS (.fdk (kvS q os)),oS (.str s.nm),oS (.int (q s.nm).st),oS (.int (q s.nm).ln)]=some false:=fun {A B}=>by
    have t1:toB (b2 isD (vSh 4) (vC .non)) [oS (sP bs ss h),oS (.fdk (kvS q os)),oS (.str s.nm),oS (.int (q s.nm).st),oS (.int (q s.nm).ln)]=some false:=rfl
    have t2:toB (b2 ltD (vSh 3) (vC (.int 0))) [oS (sP bs ss h),oS (.fdk (kvS q os)),oS (.str s.nm),oS (.int (q s.nm).st),oS (.int (q s.nm).ln)]=some false:=za4 (zax rfl rfl (by show some (D.bl (decide _))=_;rw [qL (by omega)]))
    have em:zce "Shop" "last_moment" zaF (vSh 0) zal [oS (sP bs ss h),oS (.fdk (kvS q os)),oS (.str s.nm),oS (.int (q s.nm).st),oS (.int (q s.nm).ln)]=some (.int h):=zdc (bs:=bs) (ss:=ss) (js:=[]) (us:=[]) (ls:=[]) (ks:=[]) (h:=h) (by decide +kernel) rfl zat (by
     unfold zaF zcE
     exact zaR [oS (sP bs ss h)] rfl (zaS (zeT (bs:=bs) (ss:=ss) (js:=[]) (us:=[]) (ls:=[]) (ks:=[]) (h:=h) (fo:=vSh 0) 6 rfl rfl)))
    have t3:toB (b2 gtD (b2 zbv (vSh 3) (vSh 4)) (zce "Shop" "last_moment" zaF (vSh 0) zal)) [oS (sP bs ss h),oS (.fdk (kvS q os)),oS (.str s.nm),oS (.int (q s.nm).st),oS (.int (q s.nm).ln)]=some false:=za4 (zax (x:=.int ((q s.nm).st+(q s.nm).ln)) rfl em (by show some (D.bl (decide _))=_;rw [qL (by omega)]))
    simp only [orT,t1,t2,t3,qc,Bool.false_eq_true,if_false]
   exact ⟨_,_,rfl,(zaD (zlB (o.gS hs rfl rfl))).trans ((zaD (zaL (zaf rfl (zaf rfl (zaf (zl6 (o.gS hs rfl rfl)) zat))) (zpG o.g hs (o.s.way s hs)))).trans ((zde (e1 (A:=none) (B:=none))).trans rfl)),oS (.str s.nm),oS (.int (q s.nm).st),oS (.int (q s.nm).ln),rfl⟩)
 unfold zbK zex
 exact zaR (ρ':=[oS (sP bs ss h),oS (.fdk (kvS q os)),a,b,c]) [oS (sP bs ss h),oS (.fdk (kvS q os)),none,none,none] rfl ((zbr ((zct (zfC o.g rfl)).trans (h1.trans (by rw [h2])))).trans (zaS (f:=vC .non) rfl))
end
end Law
end
section
namespace Law
open PySem L2
theorem zuR {g:D->D->D->Option D} {fa fb fc:FE} {ρ:zaZ} {x y z w:D} (h1:fa ρ=some x) (h2:fb ρ=some y) (h3:fc ρ=some z) (h4:g x y z=some w):b3 g fa fb fc ρ=some w:=by
 unfold b3;rw [h1,qc,h2,qc,h3];exact h4
section
variable {bs:List BenchT} {ss:List StepT} {h:Int} {q:Str->PlT} {os:List Str}
abbrev dEn (q:Str->PlT) (ss:List StepT):D:=.dk (kvE q (ss.map (·.nm)))
theorem zoS (x:Str):zbo [sP bs ss h,.str x]=some .non:=by
 unfold zbo zd4
 exact zaR [oS (sP bs ss h),oS (.str x)] rfl (zaS (zaL (zaf (zax (zeT (bs:=bs) (ss:=ss) (js:=[]) (us:=[]) (ls:=[]) (ks:=[]) (h:=h) 10 rfl rfl) rfl rfl) zat) (zhe (d:=.non) trivial)))
theorem zrS (o:Ok bs ss h q os):zbL [sP bs ss h,.fdk (kvS q os),dEn q ss]=some .non:=by
 obtain ⟨ρ',h1,a,b,h2⟩:=zeJ (gg:=zaJ 3) (body:=zay (zba 4 (zce "Shop" "job_of" zbo (vSh 0) (zaa (vSh 3) zal))) (sIf (zj3 (toB (b2 zfE (vSh 4) (vC .non))) (orT (toB (b2 ltD (b2 ixD (b2 zbw (vSh 1) (vSh 3)) (vC (.int 1))) (b2 ixD (vSh 4) (vC (.int 1))))) (toB (b2 gtD (b2 zbw (vSh 2) (vSh 3)) (b2 ixD (vSh 4) (vC (.int 2))))))) (zbb (zbW (szF (zaa (vC (.str "job")) (zaa (vSh 3) zal))))) zbX)) (xs:=(ss.map (·.nm)).map D.str) (ρ:=[oS (sP bs ss h),oS (.fdk (kvS q os)),oS (dEn q ss),none,none])
  (fun ρ=>∃ a b,ρ=[oS (sP bs ss h),oS (.fdk (kvS q os)),oS (dEn q ss),a,b]) ⟨none,none,rfl⟩ (fun x hx ρ hI=>by
   obtain ⟨a,b,rfl⟩:=hI
   obtain ⟨s,hs,rfl⟩:=zld hx
   exact ⟨_,_,rfl,(zaD (d:=.non) (zdc (bs:=bs) (ss:=ss) (js:=[]) (us:=[]) (ls:=[]) (ks:=[]) (h:=h) (by decide +kernel) rfl (zaf rfl zat) (zoS s.nm))).trans ((zde (b:=false) rfl).trans rfl),oS (.str s.nm),oS .non,rfl⟩)
 unfold zbL zey
 exact zaR (ρ':=[oS (sP bs ss h),oS (.fdk (kvS q os)),oS (dEn q ss),a,b]) [oS (sP bs ss h),oS (.fdk (kvS q os)),oS (dEn q ss),none,none] rfl ((zbr ((zct (zfC o.g rfl)).trans (h1.trans (by rw [h2])))).trans (zaS (f:=vC .non) rfl))
theorem zkH (o:Ok bs ss h q os) {x:Str} (hx:x∈bs.map (·.nm)):zaW [sP bs ss h,.str x]=some (.lst []):=by
 obtain ⟨b,hb,rfl⟩:=List.mem_map.mp hx
 unfold zaW zc4
 refine zaR [oS (sP bs ss h),oS (.str b.nm)] rfl (zaS (zaL (zaf (d:=.lst []) (zax (x:=zaK b) (zax (x:=.dk (bs.map fun b=>(.inr b.nm,zaK b))) (z:=zaK b) (zeT (bs:=bs) (ss:=ss) (js:=[]) (us:=[]) (ls:=[]) (ks:=[]) (h:=h) 7 rfl rfl) rfl ?_) rfl ?_) zat) (zhe (d:=.lst []) ⟨by simp [sizeLine],fun y hy=>(by cases hy)⟩)))
 ·show (some (zhF (bs.map fun b=>((.inr b.nm:Key),zaK b)) (.inr b.nm))).bind id=_
  rw [qc]
  exact zfr (nm:=fun b:BenchT=>b.nm) (f:=zaK) o.g.bn hb
 ·rw [show ixD (zaK b) (.int 1)=some (.lst (b.br.map dIv)) from zpL,o.nb b hb];rfl
theorem Ok.bnm (o:Ok bs ss h q os) {s:StepT} (hs:s∈ss):(q s.nm).bn∈bs.map (·.nm):=((o.g.s s hs).ws _ (o.s.way s hs)).1
theorem zn0 (o:Ok bs ss h q os):zbl [sP bs ss h,.fdk (kvS q os),dEn q ss]=some .non:=by
 obtain ⟨ρ',h1,a,b,c,h2⟩:=zeJ (gg:=zaJ 3) (body:=zay (zba 4 (b2 ixD (b2 zbw (vSh 1) (vSh 3)) (vC (.int 1)))) (zay (zba 5 (zce "Shop" "breaks_of" zaW (vSh 0) (zaa (b2 ixD (b2 zbw (vSh 1) (vSh 3)) (vC (.int 0))) zal))) (sIf (toB (cF zt0 (zaa (za1 (zaP (itF (vSh 5)) (zbC 2 (zau (zaJ 0) (zau (zaJ 1) zbB))) tT (zht (b2 ltD (vSh 2) (vSh 1)) (b2 ltD (vSh 0) (b2 zbw (vSh 3) (vSh 4)))) [none,none,some 4,some 2,some 3])) zal))) (zbb (zbW (szF (zaa (vC (.str "break")) (zaa (vSh 3) zal))))) zbX))) (xs:=(ss.map (·.nm)).map D.str) (ρ:=[oS (sP bs ss h),oS (.fdk (kvS q os)),oS (dEn q ss),none,none,none])
  (fun ρ=>∃ a b c,ρ=[oS (sP bs ss h),oS (.fdk (kvS q os)),oS (dEn q ss),a,b,c]) ⟨none,none,none,rfl⟩ (fun x hx ρ hI=>by
   obtain ⟨a,b,c,rfl⟩:=hI
   obtain ⟨s,hs,rfl⟩:=zld hx
   exact ⟨_,_,rfl,(zaD (zlB (o.gS hs rfl rfl))).trans ((zaD (d:=.lst []) (zdc (bs:=bs) (ss:=ss) (js:=[]) (us:=[]) (ls:=[]) (ks:=[]) (h:=h) (by decide +kernel) rfl (zaf (zl6 (o.gS hs rfl rfl)) zat) (zkH o (o.bnm hs)))).trans ((zde (b:=false) (za4 rfl)).trans rfl)),oS (.str s.nm),oS (.int (q s.nm).st),oS (.lst []),rfl⟩)
 unfold zbl zdB
 exact zaR (ρ':=[oS (sP bs ss h),oS (.fdk (kvS q os)),oS (dEn q ss),a,b,c]) [oS (sP bs ss h),oS (.fdk (kvS q os)),oS (dEn q ss),none,none,none] rfl ((zbr ((zct (zfC o.g rfl)).trans (h1.trans (by rw [h2])))).trans (zaS (f:=vC .non) rfl))
theorem znc (o:Ok bs ss h q os) {s:StepT} (hs:s∈ss):zaV [sP bs ss h,.str s.nm]=some (.str s.kd):=by
 unfold zaV zdE
 refine zaR [oS (sP bs ss h),oS (.str s.nm)] rfl (zaS (zax (zax (x:=.dk (ss.map fun s=>(.inr s.nm,zaO s))) (z:=zaO s) (zeT (bs:=bs) (ss:=ss) (js:=[]) (us:=[]) (ls:=[]) (ks:=[]) (h:=h) 8 rfl rfl) rfl ?_) rfl zpL))
 show (some (zhF (ss.map fun s=>((.inr s.nm:Key),zaO s)) (.inr s.nm))).bind id=_
 rw [qc]
 exact zfr (nm:=fun s:StepT=>s.nm) (f:=zaO) o.g.sn hs
theorem zlD (a b c:Str):za7 [sP bs ss h,.str a,.str b,.str c]=some (.int 0):=by
 unfold za7 zdj
 exact zaR [oS (sP bs ss h),oS (.str a),oS (.str b),oS (.str c)] rfl (zaS (zuR (zeT (bs:=bs) (ss:=ss) (js:=[]) (us:=[]) (ls:=[]) (ks:=[]) (h:=h) 9 rfl rfl) (zj8 rfl rfl rfl) rfl rfl))
theorem zpf (o:Ok bs ss h q os) {s t:StepT} (hs:s∈ss) (ht:t∈ss) (hne:s.nm≠t.nm):zaU [sP bs ss h,.fdk (kvS q os),dEn q ss,.str s.nm,.str t.nm]=some (.bl false):=by
 have ap:=o.s.apart s hs t ht hne
 have l1:=o.s.lo s hs
 have l2:=o.s.lo t ht
 unfold zaU zdi
 have fin:∀ {u v:StepT},u∈ss->v∈ss->(q u.nm).st+(q u.nm).ln<=(q v.nm).st->(zay (zba 7 (zce "Shop" "setup_of" za7 (vSh 0) (zaa (b2 ixD (b2 zbw (vSh 1) (vSh 3)) (vC (.int 0))) (zaa (zce "Shop" "kind_of" zaV (vSh 0) (zaa (vSh 5) zal)) (zaa (zce "Shop" "kind_of" zaV (vSh 0) (zaa (vSh 6) zal)) zal))))) (zbb (b2 ltD (b2 ixD (b2 zbw (vSh 1) (vSh 6)) (vC (.int 1))) (b2 zbv (b2 zbw (vSh 2) (vSh 5)) (vSh 7))))) [oS (sP bs ss h),oS (.fdk (kvS q os)),oS (dEn q ss),oS (.str s.nm),oS (.str t.nm),oS (.str u.nm),oS (.str v.nm),none]=some (.rt (.bl false),[oS (sP bs ss h),oS (.fdk (kvS q os)),oS (dEn q ss),oS (.str s.nm),oS (.str t.nm),oS (.str u.nm),oS (.str v.nm),oS (.int 0)]):=fun {u v} hu hv hle=>by
  refine (zaD (d:=.int 0) (zdc (bs:=bs) (ss:=ss) (js:=[]) (us:=[]) (ls:=[]) (ks:=[]) (h:=h) (by decide +kernel) rfl (zaf (zl6 (o.gS hs rfl rfl)) (zaf (zdc (bs:=bs) (ss:=ss) (js:=[]) (us:=[]) (ls:=[]) (ks:=[]) (h:=h) (by decide +kernel) rfl (zaf rfl zat) (znc o hu)) (zaf (zdc (bs:=bs) (ss:=ss) (js:=[]) (us:=[]) (ls:=[]) (ks:=[]) (h:=h) (by decide +kernel) rfl (zaf rfl zat) (znc o hv)) zat))) (zlD _ _ _))).trans (zaS (zax (zlB (o.gS hv rfl rfl)) (zax (o.gE hu rfl rfl) rfl (z:=.int ((q u.nm).st+(q u.nm).ln+0)) rfl) ?_))
  show some (D.bl (decide _))=_
  rw [qL (by omega)]
 have te:toB (b2 ltD (b2 ixD (b2 zbw (vSh 1) (vSh 4)) (vC (.int 1))) (b2 ixD (b2 zbw (vSh 1) (vSh 3)) (vC (.int 1)))) [oS (sP bs ss h),oS (.fdk (kvS q os)),oS (dEn q ss),oS (.str s.nm),oS (.str t.nm),oS (.str s.nm),oS (.str t.nm),none]=some (decide ((q t.nm).st < (q s.nm).st)):=za4 (zax (zlB (o.gS ht rfl rfl)) (zlB (o.gS hs rfl rfl)) rfl)
 by_cases hc:(q t.nm).st < (q s.nm).st
 ·rw [qQ hc] at te
  refine zaR (ρ':=[oS (sP bs ss h),oS (.fdk (kvS q os)),oS (dEn q ss),oS (.str s.nm),oS (.str t.nm),oS (.str t.nm),oS (.str s.nm),oS (.int 0)]) [oS (sP bs ss h),oS (.fdk (kvS q os)),oS (dEn q ss),oS (.str s.nm),oS (.str t.nm),none,none,none] rfl ((zaD (d:=.str s.nm) rfl).trans ((zaD (d:=.str t.nm) rfl).trans ((zbr ((zde te).trans ((qU rfl).trans ((zaD (d:=.str t.nm) rfl).trans (zfw (d:=.str s.nm) rfl))))).trans (fin ht hs (by omega)))))
 ·rw [qL hc] at te
  refine zaR (ρ':=[oS (sP bs ss h),oS (.fdk (kvS q os)),oS (dEn q ss),oS (.str s.nm),oS (.str t.nm),oS (.str s.nm),oS (.str t.nm),oS (.int 0)]) [oS (sP bs ss h),oS (.fdk (kvS q os)),oS (dEn q ss),oS (.str s.nm),oS (.str t.nm),none,none,none] rfl ((zaD (d:=.str s.nm) rfl).trans ((zaD (d:=.str t.nm) rfl).trans ((zcf te).trans (fin hs ht (by omega)))))
theorem zpC:∀ {ss:List StepT} {p:StepT×StepT},(ss.map (·.nm)).Nodup->p∈prS ss->p.1.nm≠p.2.nm
 | [],_,_,h=>by simp [prS] at h
 | s::r,p,nd,h=>by
  rw [qp,List.nodup_cons] at nd
  unfold prS at h
  rcases List.mem_append.mp h with z | z
  ·obtain ⟨t,ht,rfl⟩:=List.mem_map.mp z
   exact fun e=>nd.1 (by rw [show s.nm=t.nm from e];exact qS ht)
  ·exact zpC nd.2 z
theorem zn1 (o:Ok bs ss h q os):zbm [sP bs ss h,.fdk (kvS q os),dEn q ss]=some .non:=by
 obtain ⟨ρ',h1,a,b,h2⟩:=zeJ (gg:=zbC 2 (zau (zaJ 3) (zau (zaJ 4) zbB))) (body:=sIf (zj3 (toB (b2 eqA (b2 ixD (b2 zbw (vSh 1) (vSh 3)) (vC (.int 0))) (b2 ixD (b2 zbw (vSh 1) (vSh 4)) (vC (.int 0))))) (toB (cF zaU (zaa (vSh 0) (zaa (vSh 1) (zaa (vSh 2) (zaa (vSh 3) (zaa (vSh 4) zal)))))))) (zbb (zbW (szF (zaa (vC (.str "bench")) (zaa (vSh 3) (zaa (vSh 4) zal)))))) zbX) (xs:=(prS ss).map dP) (ρ:=[oS (sP bs ss h),oS (.fdk (kvS q os)),oS (dEn q ss),none,none])
  (fun ρ=>∃ a b,ρ=[oS (sP bs ss h),oS (.fdk (kvS q os)),oS (dEn q ss),a,b]) ⟨none,none,rfl⟩ (fun x hx ρ hI=>by
   obtain ⟨a,b,rfl⟩:=hI
   obtain ⟨p,hp,rfl⟩:=List.mem_map.mp hx
   obtain ⟨m1,m2⟩:=zmB hp
   have te:=zjd (f:=toB (b2 eqA (b2 ixD (b2 zbw (vSh 1) (vSh 3)) (vC (.int 0))) (b2 ixD (b2 zbw (vSh 1) (vSh 4)) (vC (.int 0))))) (g:=toB (cF zaU (zaa (vSh 0) (zaa (vSh 1) (zaa (vSh 2) (zaa (vSh 3) (zaa (vSh 4) zal))))))) (ρ:=[oS (sP bs ss h),oS (.fdk (kvS q os)),oS (dEn q ss),oS (.str p.1.nm),oS (.str p.2.nm)]) (za4 (zax (zl6 (o.gS m1 rfl rfl)) (zl6 (o.gS m2 rfl rfl)) (znr _ _))) (za4 (zaL (zaf rfl (zaf rfl (zaf rfl (zaf rfl (zaf rfl zat))))) (zpf o m1 m2 (zpC o.g.sn hp))))
   rw [Bool.and_false] at te
   exact ⟨_,_,rfl,(zde te).trans rfl,oS (.str p.1.nm),oS (.str p.2.nm),rfl⟩)
 have em:itF (cF zco (zaa (zce "Shop" "step_names" zah (vSh 0) zal) zal)) [oS (sP bs ss h),oS (.fdk (kvS q os)),oS (dEn q ss),none,none]=some ((prS ss).map dP):=by
  have e1:=zaL (zaf (zdc (bs:=bs) (ss:=ss) (js:=[]) (us:=[]) (ls:=[]) (ks:=[]) (h:=h) (F:=zah) (m:="step_names") (fo:=vSh 0) (fr:=zal) (ρ:=[oS (sP bs ss h),oS (.fdk (kvS q os)),oS (dEn q ss),none,none]) (by decide +kernel) rfl zat (zdL (bs:=bs) (ss:=ss) (js:=[]) (us:=[]) (ls:=[]) (ks:=[]) (h:=h) o.g.sl.2)) zat) (zoD ss o.g.sl.2)
  unfold itF;rw [e1];rfl
 unfold zbm zdC
 exact zaR (ρ':=[oS (sP bs ss h),oS (.fdk (kvS q os)),oS (dEn q ss),a,b]) [oS (sP bs ss h),oS (.fdk (kvS q os)),oS (dEn q ss),none,none] rfl ((zbr ((zct em).trans (h1.trans (by rw [h2])))).trans (zaS (f:=vC .non) rfl))
end
end Law
end
section
namespace Law
open PySem L2
theorem zdY {ft:FT} {i:Nat} {f:FE} {g:FS} {ρ:zaZ} {d:D} (h:ft ρ=some true) (h2:f ρ=some d):zay (sIf ft (zba i f) zbX) g ρ=g (ρ.set i (oS d)):=by
 refine zbr ((zde h).trans ((qU rfl).trans (zfw h2)))
section
variable {bs:List BenchT} {ss:List StepT} {h:Int} {q:Str->PlT} {os:List Str}
theorem zgY {F:FQ} {m:Str} {ρ:zaZ} (hm:m∉zfD) (hF:F [sP bs ss h]=some (.lst [])) (h0:vSh 0 ρ=some (sP bs ss h)):itF (zce "Shop" m F (vSh 0) zal) ρ=some []:=by
 have em:=zdc (bs:=bs) (ss:=ss) (js:=[]) (us:=[]) (ls:=[]) (ks:=[]) (h:=h) (F:=F) (m:=m) (fo:=vSh 0) (fr:=zal) (ρ:=ρ) hm h0 zat hF
 unfold itF;rw [em];rfl
theorem zhd:zaz [.lst []]=some (.lst []):=zhe (d:=.lst []) ⟨by simp [sizeLine],fun y hy=>(by cases hy)⟩
theorem zrg:zbf [sP bs ss h]=some (.lst []):=by
 unfold zbf zdk
 exact zaR [oS (sP bs ss h)] rfl (zaS (zaL (zaf (zeT (bs:=bs) (ss:=ss) (js:=[]) (us:=[]) (ls:=[]) (ks:=[]) (h:=h) 2 rfl rfl) zat) zhd))
theorem zrb:za8 [sP bs ss h]=some (.lst []):=by
 unfold za8 zc3
 exact zaR [oS (sP bs ss h)] rfl (zaS (zaL (zaf (zeT (bs:=bs) (ss:=ss) (js:=[]) (us:=[]) (ls:=[]) (ks:=[]) (h:=h) 4 rfl rfl) zat) zhd))
theorem zrf:zaY [sP bs ss h]=some (.lst []):=by
 unfold zaY zcM
 exact zaR [oS (sP bs ss h)] rfl (zaS (zaL (zaf (zeT (bs:=bs) (ss:=ss) (js:=[]) (us:=[]) (ls:=[]) (ks:=[]) (h:=h) 5 rfl rfl) zat) zhd))
theorem zn3 {A B:D}:zbn [sP bs ss h,A,B]=some .non:=by
 unfold zbn zdD
 exact zaR (ρ':=[oS (sP bs ss h),oS A,oS B,none,none,none,none,none]) [oS (sP bs ss h),oS A,oS B,none,none,none,none,none] rfl ((zbr ((zct (zgY (by decide +kernel) zrg rfl)).trans rfl)).trans (zaS (f:=vC .non) rfl))
theorem zpn {A B:D}:zby [sP bs ss h,A,B]=some .non:=by
 unfold zby zd3
 exact zaR (ρ':=[oS (sP bs ss h),oS A,oS B,none,none,none]) [oS (sP bs ss h),oS A,oS B,none,none,none] rfl ((zbr ((zct (zgY (by decide +kernel) zrb rfl)).trans rfl)).trans (zaS (f:=vC .non) rfl))
theorem znT {A B:D}:zbk [sP bs ss h,A,B]=some .non:=by
 unfold zbk zdA
 exact zaR (ρ':=[oS (sP bs ss h),oS A,oS B,none,none,none]) [oS (sP bs ss h),oS A,oS B,none,none,none] rfl ((zbr ((zct (zgY (by decide +kernel) zrf rfl)).trans rfl)).trans (zaS (f:=vC .non) rfl))
theorem dkE (o:Ok bs ss h q os):dkF zaN [sP bs ss h,.fdk (kvS q os)]=some (dEn q ss):=by
 unfold dkF;rw [zns o];rfl
theorem zoY (o:Ok bs ss h q os):zbc [sP bs ss h,.fdk (kvS q os)]=some .non:=by
 unfold zbc zdz
 refine zaR (ρ':=[oS (sP bs ss h),oS (.fdk (kvS q os)),oS .non,oS (dEn q ss)]) [oS (sP bs ss h),oS (.fdk (kvS q os)),none,none] rfl ?_
 refine (zaD (d:=.non) (zaL (zaf rfl (zaf rfl zat)) (zpl o))).trans ?_
 refine (zdY (d:=.non) rfl (zaL (zaf rfl (zaf rfl zat)) (zrI o))).trans ?_
 refine (zcf rfl).trans ?_
 refine (zaD (d:=dEn q ss) (zaL (zaf rfl (zaf rfl zat)) (dkE o))).trans ?_
 refine (zaD (d:=.non) (zaL (zaf rfl (zaf rfl (zaf rfl zat))) (zrS o))).trans ?_
 refine (zdY (d:=.non) rfl (zaL (zaf rfl (zaf rfl (zaf rfl zat))) (zn0 o))).trans ?_
 refine (zdY (d:=.non) rfl (zaL (zaf rfl (zaf rfl (zaf rfl zat))) (zn1 o))).trans ?_
 refine (zdY (d:=.non) rfl (zaL (zaf rfl (zaf rfl (zaf rfl zat))) zn3)).trans ?_
 refine (zdY (d:=.non) rfl (zaL (zaf rfl (zaf rfl (zaf rfl zat))) zpn)).trans ?_
 refine (zdY (d:=.non) rfl (zaL (zaf rfl (zaf rfl (zaf rfl zat))) znT)).trans ?_
 exact zaS (f:=vSh 2) rfl
def eI (q:Str->PlT) (x:Str):Int:=(q x).st+(q x).ln
theorem zve {xs:List Str} (hx:xs≠[]):zhM (.dk (kvE q xs))=some (.int (zjf (xs.map (eI q)))):=by
 have e:(kvE q xs).map (·.2)=xs.map fun x=>D.int (eI q x):=by unfold kvE;rw [qq];rfl
 show (zjG ((kvE q xs).map (·.2))).bind _=_
 rw [e,ziM (f:=eI q),qc,qV (by simpa using hx)]
theorem zjA (o:Ok bs ss h q os):zbi [sP bs ss h,.fdk (kvS q os)]=some (.int (zjf ((ss.map (·.nm)).map (eI q)))):=by
 have hx:ss.map (·.nm)≠[]:=fun e=>by
  have l1:=o.g.sl.1
  rw [List.map_eq_nil_iff.mp e] at l1
  simp at l1
 unfold zbi zfo
 exact zaR [oS (sP bs ss h),oS (.fdk (kvS q os))] rfl (zaS (zpp (zaL (zaf rfl (zaf rfl zat)) (dkE o)) (zve hx)))
theorem zkO (i:Int):za3 [.int i]=some (.bl true):=by
 simp only [za3,zeA,zb9,zbb,zht,zr6,cF,zaa,zal,vSh,vC,zgz,tyD,qp,qM,qr,qP,List.replicate,qd,qc,qf,Bool.not_false,i2,i3]
theorem zrp (i:Int):eqX (.int i) (.int i)=some true:=by
 have sh:SeqAt.shaped (.int i)=true:=by simp [SeqAt.shaped,PyData.canLay0,PyData.depth]
 unfold eqX
 rw [show pdD (.int i)=some (.int i) by simp [pdD],qc,qc,qU ⟨sh,sh⟩]
 simp [PyData.eqv]
theorem zlk {xs:List Str} (nd:xs.Nodup):∀ {ms:List Str},(∀ x∈ms,x∈xs)->zks (kvE q xs) (kvE q ms)=some true
 | [],_=>rfl
 | x::r,hm=>by
  show (match zhF (kvE q xs) (Sum.inr x) with | none=>some false | some y=>(eqX (vE q x) y).bind fun e=>(zks (kvE q xs) (kvE q r)).map (e && ·))=_
  rw [show zhF (kvE q xs) (.inr x:Key)=some (vE q x) from zfN nd (hm x qh)]
  show ((eqX (vE q x) (vE q x)).bind _)=_
  unfold vE
  rw [zrp,qc,zlk nd fun y hy=>hm y (qi _ hy)]
  rfl
theorem zuy {xs ms:List Str} (nd:xs.Nodup) (hp:ms.Perm xs):znK (.dk (kvE q ms)) (.dk (kvE q xs))=some (.bl false):=by
 have:ztA (.dk (kvE q ms)) (.dk (kvE q xs))=some true:=by
  show (if (kvE q ms).length=(kvE q xs).length then zks (kvE q xs) (kvE q ms) else some false)=_
  rw [qU (by unfold kvE;rw [qg,qg];exact hp.length_eq)]
  exact zlk nd fun x hx=>hp.mem_iff.mp hx
 unfold znK
 rw [this]
 rfl
end
def sg (qs:List PlT) (x:Str):PlT:=(qs.find? fun q=>decide (q.nm=x)).getD ⟨x,x,0,0⟩
theorem zok:∀ {qs:List PlT} {p:PlT},(qs.map (·.nm)).Nodup->p∈qs->sg qs p.nm=p
 | [],_,_,h=>by cases h
 | x::r,p,nd,h=>by
  rw [qp,List.nodup_cons] at nd
  unfold sg
  rw [List.find?_cons]
  rcases List.mem_cons.mp h with e | e
  ·subst e;simp
  ·have hne:¬ x.nm=p.nm:=fun z=>nd.1 (by rw [z];exact qS e)
   rw [qL hne]
   exact zok nd.2 e
theorem zuB {qs:List PlT} (nd:(qs.map (·.nm)).Nodup):qs.map kN=kvE (sg qs) (qs.map (·.nm)):=by
 unfold kvE
 rw [qq]
 refine List.map_congr_left fun p hp=>?_
 show kN p=(.inr p.nm,.int ((sg qs p.nm).st+(sg qs p.nm).ln))
 rw [zok nd hp];rfl
theorem zth {qs:List PlT} (nd:(qs.map (·.nm)).Nodup):qs.map kP=kvS (sg qs) (qs.map (·.nm)):=by
 unfold kvS
 rw [qq]
 refine List.map_congr_left fun p hp=>?_
 show kP p=(.inr p.nm,.tup [.str (sg qs p.nm).bn,.int (sg qs p.nm).st])
 rw [zok nd hp];rfl
theorem zsu {ss:List StepT} {qs:List PlT} {h:Int} (hl:ss.length<=7) (hh:400<=h) (nd:(ss.map (·.nm)).Nodup) (I:PlInv ss ss.length [] qs):(qs.map (·.nm)).Perm (ss.map (·.nm))/\Sch ss h (sg qs):=by
 have pm:(qs.map (·.nm)).Perm (ss.map (·.nm)):=by have:=I.perm;rw [qM,List.append_nil] at this;exact this
 have qn:=pm.nodup_iff.mpr nd
 have at':∀ s∈ss,∃ p∈qs,p.nm=s.nm/\sg qs s.nm=p:=fun s hs=>by
  obtain ⟨p,hp,e⟩:=List.mem_map.mp (pm.mem_iff.mpr (qS (f:=fun s:StepT=>s.nm) hs))
  exact ⟨p,hp,e,by rw [← e];exact zok qn hp⟩
 refine ⟨pm,fun s hs=>?_,fun s hs=>?_,fun s hs t ht hne=>?_⟩
 ·obtain ⟨p,hp,e1,e2⟩:=at' s hs
  obtain ⟨s',hs',e3,e4⟩:=I.way p hp
  rw [e2]
  rw [zmQ nd hs' hs (e3.trans e1)] at e4
  exact e4
 ·obtain ⟨p,hp,e1,e2⟩:=at' s hs
  have:=I.lo p hp
  rw [e2]
  exact ⟨this.1,this.2.1,by omega⟩
 ·obtain ⟨p,hp,e1,e2⟩:=at' s hs
  obtain ⟨r,hr,e3,e4⟩:=at' t ht
  rw [e2,e4]
  obtain ⟨i,hi⟩:=List.getElem?_of_mem hp
  obtain ⟨j,hj⟩:=List.getElem?_of_mem hr
  have sq:=List.pairwise_iff_getElem.mp I.seq
  obtain ⟨hil,ei⟩:=List.getElem?_eq_some_iff.mp hi
  obtain ⟨hjl,ej⟩:=List.getElem?_eq_some_iff.mp hj
  have hij:i≠j:=fun z=>hne (by
   subst z
   rw [ei] at ej
   rw [← e1,← e3,ej])
  rcases Nat.lt_or_gt_of_ne hij with z | z
  ·left;have:=sq i j hil hjl z;rw [ei,ej] at this;exact this
  ·right;have:=sq j i hjl hil z;rw [ei,ej] at this;exact this
end Law
end
section
namespace Law
open PySem L2
theorem znd {f:Str->D}:∀ ns:List Str,ze2 (ns.map fun x=>((.inr x:Key),f x))=some ns
 | []=>rfl
 | y::r=>by
  show (ze2 (r.map fun x=>((.inr x:Key),f x))).map (y::·)=_
  rw [znd r]
  rfl
theorem zmn {f:Str->D} {ns:List Str} (h:ns.length<=20):zec [.dk (ns.map fun x=>((.inr x:Key),f x))]=some (.lst ((zis ns).map D.str)):=by
 show ((ze2 (ns.map fun x=>((.inr x:Key),f x))).bind fun ss=>if ss.length < 64 then some (D.lst ((zis ss).map D.str)) else none)=_
 rw [znd,qc,qU (by omega)]
theorem zo8 {f:Str->D} {os:List Str} (nd:os.Nodup) (hl:os.length<=40):zgn [.lst (os.map fun x=>.tup [.str x,f x])]=some (.fdk (os.map fun x=>(.inr x,f x))):=by
 have kn:((os.map fun x=>((.inr x:Key),f x)).map (·.1)).Nodup:=by
  rw [qq]
  exact List.Pairwise.map (S:=fun a b:Key=>a≠b) (Sum.inr:Str->Key) (fun a b hab z=>hab (Sum.inr.inj z)) nd
 have e:zgm [.lst (os.map fun x=>.tup [.str x,f x])]=some (.dk (os.map fun x=>(.inr x,f x))):=by
  show (if _ then _ else _)=_
  rw [qU (by rw [qg];omega),zfY (nm:=fun x:Str=>x),qf,zf0 kn]
 unfold zgn
 rw [e];rfl
abbrev lwE (ns:List Int) (h:Int) (L:D) (S:D) (a b c d e:Option Slot):zaZ:=[oS (.scr ns),oS (.int h),oS L,oS S,a,b,c,d,e]
def lwB:FS:=(zay (zoo (zbC 2 (zau (zaJ 5) (zau (zaJ 6) zbB))) (cF zbz (zaa (b2 ixD (vSh 2) (vC (.int 1))) (zaa (vSh 4) zal)))) (zay (zba 7 (cF zec (zaa (vSh 5) zal))) (zay (sIf (toB (b2 eqD (b2 zb6 (vSh 4) (vC (.int 2))) (vC (.int 1)))) (zba 7 (b1 zr4 (cF zid (zaa (vSh 5) zal)))) zbX) (zay (zba 5 (cF zgn (zaa (za1 (zaP (itF (vSh 7)) (zaJ 0) tT (zbW (szF (zaa (vSh 0) (zaa (b2 zbw (vSh 1) (vSh 0)) zal)))) [none,some 5])) zal))) (zay (zsv 8 zaN (zaa (vSh 3) (zaa (vSh 5) zal))) (zay (sIf (zrM 8 (orT (toB (b2 zfE (cF zbc (zaa (vSh 3) (zaa (vSh 5) zal))) (vC .non))) (orT (zcZ (toB (cF zgz (zaa (vSh 8) (zaa (vC (.ty "dict")) zal))))) (toB (b2 znK (vSh 8) (vSh 6)))))) (zbb (vC (.bl false))) zbX) (zay (sIf (zrK 8 (orT (zcZ (toB (cF zmZ (zaa (za1 (zaP (itK (vSh 8)) (zaJ 0) tT (cF za3 (zaa (b2 zbw (vSh 1) (vSh 0)) zal)) [none,some 8])) zal)))) (zcZ (toB (cF za3 (zaa (cF zbi (zaa (vSh 3) (zaa (vSh 5) zal))) zal)))))) (zbb (vC (.bl false))) zbX) (zay (zsx 8) (sIf (orT (toB (b2 neA (cF zbi (zaa (vSh 3) (zaa (vSh 5) zal))) (b1 zhM (vSh 6)))) (toB (b2 znK (cF (dkF zaN) (zaa (vSh 3) (zaa (vSh 5) zal))) (vSh 6)))) (zbb (vC (.bl false))) zbX)))))))))
theorem zoE {f g:FT} {ρ:zaZ} (h1:f ρ=some false) (h2:g ρ=some false):orT f g ρ=some false:=by
 simp only [orT,h1,qc,Bool.false_eq_true,if_false,h2]
theorem zmO {A:FE} {ρ:zaZ} (hA:A ρ=some (.bl true)):zcZ (toB A) ρ=some false:=by
 simp only [zcZ,za4 hA,qf,Bool.not_true]
theorem j8:zj5 "dict" "dict"=some true:=rfl
theorem zrL {i:Nat} {ft:FT} {ρ:zaZ} {ds:List (Key×D)} {b:Bool} (h1:ρ[i]?=some (some (.odk ds))) (h2:ft (ρ.set i (oS (.dk ds)))=some b):zrM i ft ρ=some b:=by
 unfold zrM;rw [h1];exact h2
theorem zrJ {i:Nat} {ft:FT} {ρ:zaZ} {ds:List (Key×D)} {b:Bool} (h1:ρ[i]?=some (some (.odk ds))) (h2:ft (ρ.set i (oS (.fdk ds)))=some b):zrK i ft ρ=some b:=by
 unfold zrK;rw [h1];exact h2
theorem zmi {α:Type}:∀ (l:List α),ztX (l.map fun _=>D.bl true)=true
 | []=>rfl
 | _::r=>zmi r
section
variable {bs:List BenchT} {ss:List StepT} {h:Int} {ns:List Int} {c:Int} {a b d e:Option Slot}
theorem zq9 (g:Good bs ss [] [] [] [] h) (nb:∀ b∈bs,b.br=[]) (ml:∀ s∈ss,∀ w∈s.ws,w.2<=9) (hl:ss.length<=7) (hh:400<=h) (L:List D) (hL:L[1]?=some (.lst (ss.map zaO))) :
  ∃ a' b' d' e',lwB (lwE ns h (.lst L) (sP bs ss h) (oS (.int c)) a b d e)=some (.nx,lwE ns h (.lst L) (sP bs ss h) (oS (.int c)) a' b' d' e'):=by
 obtain ⟨qs,e1,I⟩:=zo0 c g.s g.sn ml hl
 obtain ⟨pm,sc⟩:=zsu hl hh g.sn I
 have qn:=pm.nodup_iff.mpr g.sn
 have ql:(qs.map (·.nm)).length=ss.length:=by rw [pm.length_eq,qg]
 have q0:qs.map (·.nm)≠[]:=fun z=>by
  have:=g.sl.1
  rw [z] at ql
  simp at ql
  omega
 obtain ⟨os,ho,eo⟩:∃ os:List Str,os.Perm (qs.map (·.nm))/\∀ G:FS,zay (zba 7 (cF zec (zaa (vSh 5) zal))) (zay (sIf (toB (b2 eqD (b2 zb6 (vSh 4) (vC (.int 2))) (vC (.int 1)))) (zba 7 (b1 zr4 (cF zid (zaa (vSh 5) zal)))) zbX) G) (lwE ns h (.lst L) (sP bs ss h) (oS (.int c)) (oS (.dk (qs.map kP))) (oS (.dk (qs.map kN))) d e)=G (lwE ns h (.lst L) (sP bs ss h) (oS (.int c)) (oS (.dk (qs.map kP))) (oS (.dk (qs.map kN))) (oS (.lst (os.map D.str))) e):=by
  have es:zec [.dk (qs.map kP)]=some (.lst ((zis (qs.map (·.nm))).map D.str)):=by
   rw [zth qn]
   exact zmn (f:=vS (sg qs)) (by omega)
  have te:∀ Z:Option Slot,toB (b2 eqD (b2 zb6 (vSh 4) (vC (.int 2))) (vC (.int 1))) (lwE ns h (.lst L) (sP bs ss h) (oS (.int c)) (oS (.dk (qs.map kP))) (oS (.dk (qs.map kN))) Z e)=some (decide (c % 2=1)):=fun Z=>za4 (zax (zax (x:=.int c) rfl rfl (zcc (by decide))) rfl rfl)
  by_cases hc:c % 2=1
  ·refine ⟨(qs.map (·.nm)).reverse,List.reverse_perm _,fun G=>?_⟩
   refine (zaD (zaL (zaf rfl zat) es)).trans (zdY ((te _).trans (by rw [qQ hc])) (zpp (x:=.lst ((qs.map (·.nm)).map D.str)) (zaL (zaf rfl zat) ?_) ?_))
   ·show some (D.lst ((qs.map kP).map fun kv=>zoR kv.1))=_
    rw [qq,qq];rfl
   ·rw [List.map_reverse];rfl
  ·exact ⟨zis (qs.map fun p:PlT=>p.nm),List.mergeSort_perm (qs.map fun p:PlT=>p.nm) leS,fun G=>(zaD (zaL (zaf rfl zat) es)).trans (zcf ((te _).trans (by rw [qL hc])))⟩
 have o:Ok bs ss h (sg qs) os:=⟨g,nb,sc,ho.trans pm⟩
 have ol:os.length<=40:=by rw [ho.length_eq,ql];omega
 have sl0:ss.map (·.nm)≠[]:=fun z=>q0 (List.perm_nil.mp (by rw [z] at pm;exact pm))
 have ed:∀ Z:Option Slot,cF zgn (zaa (za1 (zaP (itF (vSh 7)) (zaJ 0) tT (zbW (szF (zaa (vSh 0) (zaa (b2 zbw (vSh 1) (vSh 0)) zal)))) [none,some 5])) zal) (lwE ns h (.lst L) (sP bs ss h) (oS (.int c)) (oS (.dk (qs.map kP))) (oS (.dk (qs.map kN))) (oS (.lst (os.map D.str))) Z)=some (.fdk (kvS (sg qs) os)):=fun Z=>by
  have hc:=zb7 (fi:=itF (vSh 7)) (fe:=zbW (szF (zaa (vSh 0) (zaa (b2 zbw (vSh 1) (vSh 0)) zal)))) (fv:=[none,some 5]) (ρ:=lwE ns h (.lst L) (sP bs ss h) (oS (.int c)) (oS (.dk (qs.map kP))) (oS (.dk (qs.map kN))) (oS (.lst (os.map D.str))) Z) (r:=[oS (.dk (qs.map kP))]) (a:=none) (xs:=os.map D.str) (f:=fun x=>match x with | .str y=>.tup [.str y,vS (sg qs) y] | _=>.non) rfl (by rw [qg];exact szN ol (by decide)) rfl (fun x hx=>by
   obtain ⟨y,hy,rfl⟩:=List.mem_map.mp hx
   refine zcH rfl (zax rfl rfl ?_)
   rw [zth qn]
   show (some (zhF (kvS (sg qs) (qs.map (·.nm))) (.inr y))).bind id=_
   rw [qc]
   exact zfN qn (ho.mem_iff.mp hy))
  rw [qq] at hc
  exact zaL (zaf hc zat) (zo8 (f:=vS (sg qs)) o.nd ol)
 have eN:qs.map kN=kvE (sg qs) (qs.map (·.nm)):=zuB qn
 have ne1:znK (dEn (sg qs) ss) (.dk (qs.map kN))=some (.bl false):=by rw [eN];exact zuy qn pm.symm
 refine ⟨oS (.fdk (kvS (sg qs) os)),oS (.dk (qs.map kN)),oS (.lst (os.map D.str)),some (.odk []),?_⟩
 unfold lwB
 refine (zp1 (ρ':=lwE ns h (.lst L) (sP bs ss h) (oS (.int c)) (oS (.dk (qs.map kP))) (oS (.dk (qs.map kN))) d e) (zaL (zaf (zax rfl rfl ((ixL _ 1).trans hL)) (zaf rfl zat)) e1) rfl).trans ?_
 refine (eo _).trans ?_
 refine (zaD (ed _)).trans ?_
 refine (zbr (ρ1:=lwE ns h (.lst L) (sP bs ss h) (oS (.int c)) (oS (.fdk (kvS (sg qs) os))) (oS (.dk (qs.map kN))) (oS (.lst (os.map D.str))) (some (.odk (kvE (sg qs) (ss.map (·.nm)))))) ?_).trans ?_
 ·show ((some [sP bs ss h,.fdk (kvS (sg qs) os)]).bind zaN).map _=_
  rw [qc,zns o];rfl
 refine (zcf (zrL (ds:=kvE (sg qs) (ss.map (·.nm))) rfl (zoE (za4 (zax (zaL (zaf rfl (zaf rfl zat)) (zoY o)) rfl rfl)) (zoE (zmO (zaL (zaf rfl (zaf rfl zat)) ?_)) (za4 (zax rfl rfl ne1)))))).trans ?_
 ·show (zj5 "dict" "dict").map D.bl=_
  rw [j8];rfl
 refine (zcf (zrJ (ds:=kvE (sg qs) (ss.map (·.nm))) rfl (zoE (zmO ?_) (zmO (zaL (zaf (zaL (zaf rfl (zaf rfl zat)) (zjA o)) zat) (zkO _)))))).trans ?_
 ·have hc:=zb7 (fi:=itK (vSh 8)) (fe:=cF za3 (zaa (b2 zbw (vSh 1) (vSh 0)) zal)) (fv:=[none,some 8]) (ρ:=lwE ns h (.lst L) (sP bs ss h) (oS (.int c)) (oS (.fdk (kvS (sg qs) os))) (oS (.dk (qs.map kN))) (oS (.lst (os.map D.str))) (oS (.fdk (kvE (sg qs) (ss.map (·.nm)))))) (r:=[oS (.fdk (kvE (sg qs) (ss.map (·.nm))))]) (a:=none) (xs:=(ss.map (·.nm)).map D.str) (f:=fun _=>.bl true) (by
   show some ((kvE (sg qs) (ss.map (·.nm))).map fun kv=>zoR kv.1)=_
   unfold kvE
   rw [qq];rfl) (by rw [qg,qg];exact szN g.sl.2 (by decide)) rfl (fun x hx=>by
   obtain ⟨y,hy,rfl⟩:=List.mem_map.mp hx
   refine zaL (zaf (d:=.int (eI (sg qs) y)) (zax rfl rfl ?_) zat) (zkO _)
   show (some (zhF (kvE (sg qs) (ss.map (·.nm))) (.inr y))).bind id=_
   rw [qc]
   exact zfN g.sn hy)
  refine zaL (zaf hc zat) ?_
  show (if _ then _ else _)=_
  rw [qU ⟨by
   cases hss:ss with
   | nil=>rw [hss] at sl0;simp at sl0
   | cons x r=>rfl,zmi _⟩]
 refine (zbr (ρ1:=lwE ns h (.lst L) (sP bs ss h) (oS (.int c)) (oS (.fdk (kvS (sg qs) os))) (oS (.dk (qs.map kN))) (oS (.lst (os.map D.str))) (some (.odk []))) rfl).trans ?_
 have tp:zjf ((ss.map (·.nm)).map (eI (sg qs)))=zjf ((qs.map (·.nm)).map (eI (sg qs))):=zoc (by simpa using sl0) (pm.symm.map _)
 refine (zde (b:=false) (zoE (za4 (zax (zaL (zaf rfl (zaf rfl zat)) (zjA o)) (zpp rfl (by rw [eN];exact zve q0)) ?_)) (za4 (zax (zaL (zaf rfl (zaf rfl zat)) (dkE o)) rfl ne1)))).trans rfl
 rw [zq4,tp,qQ rfl];rfl
end
end Law
end
section
namespace Law
open PySem L2
def bare (b:BenchT):BenchT:=⟨b.nm,[]⟩
theorem zn2 {bs:List BenchT} {ss:List StepT} {js:List JobT} {us:List SetT} {ls:List LinkT} {ks:List StockT} {h:Int} (g:Good bs ss js us ls ks h):Good (bs.map bare) ss [] [] [] [] h:=by
 have en:(bs.map bare).map (·.nm)=bs.map (·.nm):=by rw [qq];rfl
 refine ⟨g.hh,by rw [qg];exact g.bl,fun x hx=>?_,by rw [en];exact g.bn,g.sl,fun x hx=>by rw [en];exact g.s x hx,g.sn,by decide,fun x hx=>(by cases hx),List.nodup_nil,List.nodup_nil,by decide,fun x hx=>(by cases hx),List.nodup_nil,by decide,fun x hx=>(by cases hx),List.nodup_nil,by decide,fun x hx=>(by cases hx),List.nodup_nil⟩
 obtain ⟨b,hb,rfl⟩:=List.mem_map.mp hx
 exact ⟨(g.b b hb).nm,by show ([]:List (Int×Int)).length<=10;decide,fun p hp=>(by cases hp),fun i p q hp=>(by simp [bare] at hp)⟩
theorem noL:∀ bs:List BenchT,zgk 7 ((bs.map bare).map zaK)=true
 | []=>rfl
 | b::r=>by
  show (zfZ 7 (zaK (bare b)) && zgk 7 ((r.map bare).map zaK))=true
  rw [noL r,Bool.and_true]
  rfl
theorem ztH {α:Type} (l:List α) (lo hi:Option Int):(zhH l lo hi).length<=l.length:=by
 unfold zhH
 rw [qD,List.length_drop]
 omega
theorem zrc {i j:Nat} {f:FE} {E:FS} {ρ:zaZ} {ds:List D} {d:D} (h1:ρ[i]?=some (some (.own ds))) (h2:f (ρ.set i (oS (.lst ds)))=some d) (h3:zfZ ds.length d=true/\j < ds.length):zay (zkh i j f) E ρ=E (ρ.set i (some (.own (ds.set j d)))):=by
 have e:zkh i j f ρ=some (.nx,ρ.set i (some (.own (ds.set j d)))):=by
  unfold zkh
  rw [h1]
  simp only
  rw [h2,qc,qU h3]
 exact zbr e
def hF:FE:=b2 ixD (za1 (szF (zaa (vC (.int 400)) (zaa (b2 zr5 (vC (.int 10)) (vC (.int 6))) (zaa (b2 zbv (vC (.int 900)) (b2 zb6 (cF zar (zaa (vSh 0) (zaa (vC (.int 20)) zal))) (vC (.int 99000)))) zal))))) (b2 zb6 (cF zar (zaa (vSh 0) (zaa (vC (.int 21)) zal))) (vC (.int 3)))
theorem zuH (ns:List Int) (r:zaZ):∃ h:Int,hF (oS (.scr ns)::r)=some (.int h)/\400<=h/\h<=1000000:=by
 have c20:cF zar (zaa (vSh 0) (zaa (vC (.int 20)) zal)) (oS (.scr ns)::r)=some (.int (ns.getD 20 0)):=zaL (zaf rfl (zaf (d:=.int ((20:Nat):Int)) rfl zat)) (zd1 ns 20)
 have c21:cF zar (zaa (vSh 0) (zaa (vC (.int 21)) zal)) (oS (.scr ns)::r)=some (.int (ns.getD 21 0)):=zaL (zaf rfl (zaf (d:=.int ((21:Nat):Int)) rfl zat)) (zd1 ns 21)
 have p10:b2 zr5 (vC (.int 10)) (vC (.int 6)) (oS (.scr ns)::r)=some (.int 1000000):=by kernel_rfl
 have b0:0<=(ns.getD 21 0) % 3:=qT _ (by decide)
 have b1:(ns.getD 21 0) % 3 < 3:=qR _ (by decide)
 have d0:0<=(ns.getD 20 0) % 99000:=qT _ (by decide)
 have d1:(ns.getD 20 0) % 99000 < 99000:=qR _ (by decide)
 have e3:b2 zbv (vC (.int 900)) (b2 zb6 (cF zar (zaa (vSh 0) (zaa (vC (.int 20)) zal))) (vC (.int 99000))) (oS (.scr ns)::r)=some (.int (900+(ns.getD 20 0) % 99000)):=zax rfl (zax c20 rfl (zcc (by decide))) rfl
 have eL:=zkp (f:=vC (.int 400)) (ρ:=oS (.scr ns)::r) rfl p10 e3
 have eM:b2 zb6 (cF zar (zaa (vSh 0) (zaa (vC (.int 21)) zal))) (vC (.int 3)) (oS (.scr ns)::r)=some (.int ((ns.getD 21 0) % 3)):=zax c21 rfl (zcc (by decide))
 have:(ns.getD 21 0) % 3=0\/(ns.getD 21 0) % 3=1\/(ns.getD 21 0) % 3=2:=by omega
 rcases this with z | z | z
 ·rw [z] at eM
  exact ⟨400,zax eL eM (ixL _ 0),by decide,by decide⟩
 ·rw [z] at eM
  exact ⟨1000000,zax eL eM (ixL _ 1),by decide,by decide⟩
 ·rw [z] at eM
  exact ⟨900+(ns.getD 20 0) % 99000,zax eL eM (ixL _ 2),by omega,by omega⟩
theorem zra {f g e a b:FE} {ρ:zaZ} {x y z w u:D} (h1:f ρ=some x) (h2:g ρ=some y) (h3:e ρ=some z) (h4:a ρ=some w) (h5:b ρ=some u):za1 (szF (zaa f (zaa g (zaa e (zaa a (zaa b zal)))))) ρ=some (.lst [x,y,z,w,u]):=by
 simp only [za1,szF,zaa,zal,h1,h2,h3,h4,h5,qc,qf,qj,qo,Nat.zero_add,sz5,if_true]
theorem ztK {fe:FE}:∀ (bs:List BenchT) (a b:Option Slot),(∀ b∈bs,fe [oS (.str b.nm),oS (.lst (b.br.map dIv))]=some (zaK (bare b)))->zfF (zbC 2 (zau (zaJ 0) (zau (zaJ 1) zbB))) tT fe (bs.map zaK) [a,b]=some ((bs.map bare).map zaK)
 | [],_,_,_=>rfl
 | x::r,a,b,h=>by
  have ih:=ztK r (oS (.str x.nm)) (oS (.lst (x.br.map dIv))) fun y hy=>h y (qi _ hy)
  have hg:zbC 2 (zau (zaJ 0) (zau (zaJ 1) zbB)) (zaK x) [a,b]=some [oS (.str x.nm),oS (.lst (x.br.map dIv))]:=rfl
  simp only [qp,zfF,hg,qc,tT,if_true,h x qh,ih,qf]
theorem zlT {bs:List BenchT} {fi:FA} {ρ:zaZ} (h1:fi ρ=some (bs.map zaK)) (h2:bs.length<=3):za1 (zaP fi (zbC 2 (zau (zaJ 0) (zau (zaJ 1) zbB))) tT (zbW (szF (zaa (vSh 0) (zaa (za1 (szF zal)) zal)))) [none,none]) ρ=some (.lst ((bs.map bare).map zaK)):=by
 unfold za1 zaP
 rw [h1,qc,qU (by rw [qg];exact szN (k:=3) h2 (by decide)),show zet [none,none] ρ=[none,none] from rfl,ztK bs none none fun b hb=>zcH rfl rfl]
 rfl
theorem zoP (ns:List Int) (hlen:ns.length<=63):zrY [.scr ns]=some (.bl true):=by
 obtain ⟨h,eh,hh1,hh2⟩:=zuH ns [none,none,none,none,none,none,none,none]
 have b0:0<=(ns.getD 0 0) % 7:=qT _ (by decide)
 have b1:(ns.getD 0 0) % 7 < 7:=qR _ (by decide)
 obtain ⟨n,hn⟩:∃ n:Nat,1+(ns.getD 0 0) % 7=(n:Int):=⟨(1+(ns.getD 0 0) % 7).toNat,by omega⟩
 obtain ⟨bs,ss,js,us,ls,ks,el,g,bl,sl,ml⟩:=zoN ns n h 9 (by omega) (by omega) (by decide)
 have g':=zn2 g
 have nb:∀ b∈bs.map bare,b.br=[]:=fun b hb=>by
  obtain ⟨c,hc,rfl⟩:=List.mem_map.mp hb
  rfl
 obtain ⟨ρ',h1,a,b,c,d,e,h2⟩:=zeJ (gg:=zaJ 4) (body:=lwB) (xs:=((ns.getD 22 0)::zhH ns (some 23) (some 62)).map D.int) (ρ:=lwE ns h (.lst (zm3 (bs.map bare) ss [] [] [] [] h)) (sP (bs.map bare) ss h) none none none none none)
  (fun ρ=>∃ a b c d e,ρ=lwE ns h (.lst (zm3 (bs.map bare) ss [] [] [] [] h)) (sP (bs.map bare) ss h) a b c d e) ⟨none,none,none,none,none,rfl⟩ (fun x hx ρ hI=>by
   obtain ⟨a,b,c,d,e,rfl⟩:=hI
   obtain ⟨k,_,rfl⟩:=List.mem_map.mp hx
   obtain ⟨a',b',d',e',t⟩:=zq9 (ns:=ns) (c:=k) (a:=b) (b:=c) (d:=d) (e:=e) g' nb ml (by omega) hh1 (zm3 (bs.map bare) ss [] [] [] [] h) rfl
   exact ⟨_,_,rfl,t,_,_,_,_,_,rfl⟩)
 unfold zrY ztV
 refine zaR (ρ':=lwE ns h (.lst (zm3 (bs.map bare) ss [] [] [] [] h)) (sP (bs.map bare) ss h) a b c d e) [oS (.scr ns),none,none,none,none,none,none,none,none] rfl ?_
 refine (zaD eh).trans ?_
 refine (ziC (ds:=zm3 bs ss js us ls ks h) (ztO (zaf rfl (zaf (d:=.int (n:Int)) (zax (x:=.int 1) (y:=.int ((ns.getD 0 0) % 7)) rfl (zax (zaL (zaf rfl (zaf (d:=.int ((0:Nat):Int)) rfl zat)) (zd1 ns 0)) rfl (zcc (by decide))) (by rw [← hn];rfl)) (zaf rfl (zaf rfl zat)))) el)).trans ?_
 refine (zrc (ds:=zm3 bs ss js us ls ks h) (d:=.lst ((bs.map bare).map zaK)) rfl ?_ ⟨?_,by show 0 < 7;decide⟩).trans ?_
 ·have hc:=zlT (bs:=bs) (fi:=itF (b2 ixD (vSh 2) (vC (.int 0)))) (ρ:=[oS (.scr ns),oS (.int h),oS (.lst (zm3 bs ss js us ls ks h)),none,none,none,none,none,none]) rfl bl
  exact hc
 ·show ((((bs.map bare).map zaK).length != 7) && zgk 7 ((bs.map bare).map zaK))=true
  rw [noL,Bool.and_true,qg,qg]
  exact bne_iff_ne.mpr (by omega)
 refine (zeu rfl).trans ?_
 refine (zaD (d:=.lst (zm3 (bs.map bare) ss [] [] [] [] h)) (zax (x:=.lst [.lst ((bs.map bare).map zaK),.lst (ss.map zaO)]) ((zoj (d:=2) (xs:=[.lst ((bs.map bare).map zaK),.lst (ss.map zaO),.lst (js.map zpV),.lst (us.map zjO),.lst (ls.map zhP),.lst (ks.map zhi),.int h]) rfl rfl (by decide)).trans rfl) (zra rfl rfl rfl rfl rfl) rfl)).trans ?_
 refine (zaD (d:=sP (bs.map bare) ss h) (zaL (zaf rfl zat) (zqj g'))).trans ?_
 refine (zbr ((zct (xs:=((ns.getD 22 0)::zhH ns (some 23) (some 62)).map D.int) ?_).trans (h1.trans (by rw [h2])))).trans (zaS (f:=vC (.bl true)) rfl)
 have c22:cF zar (zaa (vSh 0) (zaa (vC (.int 22)) zal)) (lwE ns h (.lst (zm3 (bs.map bare) ss [] [] [] [] h)) (sP (bs.map bare) ss h) none none none none none)=some (.int (ns.getD 22 0)):=zaL (zaf rfl (zaf (d:=.int ((22:Nat):Int)) rfl zat)) (zd1 ns 22)
 have ea:b2 zbv (za1 (szF (zaa (cF zar (zaa (vSh 0) (zaa (vC (.int 22)) zal))) zal))) (slF (vSh 0) (pS (vC (.int 23))) (pS (vC (.int 62)))) (lwE ns h (.lst (zm3 (bs.map bare) ss [] [] [] [] h)) (sP (bs.map bare) ss h) none none none none none)=some (.lst (((ns.getD 22 0)::zhH ns (some 23) (some 62)).map D.int)):=by
  refine zax (x:=.lst [.int (ns.getD 22 0)]) (y:=.lst ((zhH ns (some 23) (some 62)).map D.int)) (by unfold za1;rw [zm5 c22];rfl) rfl ?_
  show (if _ then _ else _)=_
  rw [qU]
  ·rfl
  ·have:=ztH ns (some 23) (some 62)
   rw [qg,List.length_singleton]
   exact szN (k:=100) (by omega) (by decide)
 unfold itF
 rw [ea];rfl
end Law
end
section
namespace Law
open PySem L2 PySem.Spec PyProof.Rows
def Gam (C_Shop:Addr):Cn:=⟨fun c=>if c="Shop" then some C_Shop else none,none⟩
def zqe (K:PySem.W.Frag):Sp:=fun vs H Q _=>∃ (a:Addr) (ns:List Int),vs=[.ref a]/\SqL K H a (ns.map V.int)/\ns.length<=63/\∀ H',Q (.bl true) H'
theorem all_mk {l:PySem.W.OpenLaw} {w:World} {K:PySem.W.Frag} {h:Heap} {mg:Str->Option Value} {fa:Addr} (X:K.In h) (G:h.Ns mainGlobals mg) (hfa:mg "law"=some (.ref fa))
  {C_Shop:Addr} (aC_Shop:PySem.W.nsIn K mainGlobals "Shop"=some (some (.ref C_Shop)))
  (d0:Dfn K mg "_law_cell" zfe)
  (d1:Dfn K mg "_law_digits" zdT)
  (d2:Dfn K mg "_law_spans" zeo)
  (d3:Dfn K mg "_law_name" zfc)
  (d4:Dfn K mg "_law_benches" zdr)
  (d5:Dfn K mg "_law_steps" zen)
  (d6:Dfn K mg "_law_jobs" zfd)
  (d7:Dfn K mg "_law_setups" zdS)
  (d8:Dfn K mg "_law_links" zeq)
  (d9:Dfn K mg "_law_stocks" zdR)
  (d10:Dfn K mg "_law_lists" zep)
  (d11:Dfn K mg "is_whole" zfR)
  (d12:Dfn K mg "is_within" ze7)
  (d13:Dfn K mg "is_tuple" zfS)
  (d14:Dfn K mg "is_break" zfT)
  (d15:Dfn K mg "is_list" zgW)
  (d16:Dfn K mg "are_breaks" zel)
  (d17:Dfn K mg "is_name" zgV)
  (d18:Dfn K mg "is_bench" zfU)
  (d19:Dfn K mg "are_unlike" zei)
  (d20:Dfn K mg "are_benches" zdQ)
  (d21:Dfn K mg "is_one_of" ze8)
  (d22:Dfn K mg "is_way" ziz)
  (d23:Dfn K mg "are_ways" zfV)
  (d24:Dfn K mg "is_step" zgU)
  (d25:Dfn K mg "are_steps" ze9)
  (d26:Dfn K mg "are_jobs" zfW)
  (d27:Dfn K mg "are_setups" zek)
  (d28:Dfn K mg "are_links" zfa)
  (d29:Dfn K mg "are_stocks" zej)
  (d30:Dfn K mg "first_bad_part" zcW)
  (d31:Dfn K mg "fresh" zkg)
  (d32:DfnM K C_Shop "Shop" "__init__" "Shop.__init__" zdb)
  (d33:Dfn K mg "_law_shop" zfb)
  (d34:Dfn K mg "_law_drawn" zer)
  (d35:DfnM K C_Shop "Shop" "step_names" "Shop.step_names" zcK)
  (d36:DfnM K C_Shop "Shop" "ways_of" "Shop.ways_of" zds)
  (d37:Dfn K mg "length_on" ze5)
  (d38:Dfn K mg "ends_of" zgX)
  (d39:Dfn K mg "broken_step" zdO)
  (d40:DfnM K C_Shop "Shop" "last_moment" "Shop.last_moment" zcB)
  (d41:Dfn K mg "broken_way" zeg)
  (d42:DfnM K C_Shop "Shop" "job_of" "Shop.job_of" zdU)
  (d43:Dfn K mg "broken_job" zeh)
  (d44:DfnM K C_Shop "Shop" "breaks_of" "Shop.breaks_of" zcY)
  (d45:Dfn K mg "broken_break" zdo)
  (d46:Dfn K mg "pairs_of" zfQ)
  (d47:DfnM K C_Shop "Shop" "setup_of" "Shop.setup_of" zc9)
  (d48:DfnM K C_Shop "Shop" "kind_of" "Shop.kind_of" zdt)
  (d49:Dfn K mg "are_too_close" zc8)
  (d50:Dfn K mg "broken_bench" zdp)
  (d51:DfnM K C_Shop "Shop" "job_rows" "Shop.job_rows" zda)
  (d52:Dfn K mg "broken_apart" zdq)
  (d53:DfnM K C_Shop "Shop" "link_rows" "Shop.link_rows" zcX)
  (d54:Dfn K mg "broken_link" zdP)
  (d55:DfnM K C_Shop "Shop" "stock_rows" "Shop.stock_rows" zcJ)
  (d56:Dfn K mg "broken_stock" zdn)
  (d57:Dfn K mg "first_broken" zdm)
  (d58:Dfn K mg "length_of" ze6)
  (d59:Dfn K mg "_law_whole" zem)
  (a60:PySem.W.nsIn K mainGlobals "law"=some (some (.ref f60))) (l60:K.lookup f60=some ⟨oc60,od60,.func (PySem.W.fnOf "law" "law" (zcC zgT) (zbu zgT) (zak zgT) .none kV60 dc60 pm60 an60 cd60 ct60),sl60⟩) (c60:PySem.W.codeIn K cd60 "law"=true) (k60:PySem.W.keepIn K (.ref f60)=true)
  (pg_Shop:PySem.W.plainGet K C_Shop Str.empty=true) (hd_Shop:PySem.W.hasDictIn K C_Shop=true) (po_Shop:PySem.W.plainOver K C_Shop=true) (sa_Shop:PySem.W.findIn K (.ref C_Shop) "__setattr__"=some (some (.builtin "object.__setattr__"))) (mk_Shop:PySem.W.makesIn K C_Shop=true) (kc_Shop:PySem.W.keepIn K (.ref C_Shop)=true)
  (n0_Shop:PySem.W.findIn K (.ref C_Shop) "benches"=some none)
  (n1_Shop:PySem.W.findIn K (.ref C_Shop) "steps"=some none)
  (n2_Shop:PySem.W.findIn K (.ref C_Shop) "jobs"=some none)
  (n3_Shop:PySem.W.findIn K (.ref C_Shop) "setups"=some none)
  (n4_Shop:PySem.W.findIn K (.ref C_Shop) "links"=some none)
  (n5_Shop:PySem.W.findIn K (.ref C_Shop) "stocks"=some none)
  (n6_Shop:PySem.W.findIn K (.ref C_Shop) "horizon"=some none)
  (n7_Shop:PySem.W.findIn K (.ref C_Shop) "bench_by_name"=some none)
  (n8_Shop:PySem.W.findIn K (.ref C_Shop) "step_by_name"=some none)
  (n9_Shop:PySem.W.findIn K (.ref C_Shop) "setup_by_names"=some none)
  (n10_Shop:PySem.W.findIn K (.ref C_Shop) "job_by_step"=some none)
  (z_abs:PySem.W.nsIn K mainGlobals "abs"=some none)
  (z_all:PySem.W.nsIn K mainGlobals "all"=some none)
  (z_any:PySem.W.nsIn K mainGlobals "any"=some none)
  (z_bool:PySem.W.nsIn K mainGlobals "bool"=some none)
  (z_dict:PySem.W.nsIn K mainGlobals "dict"=some none)
  (z_enumerate:PySem.W.nsIn K mainGlobals "enumerate"=some none)
  (z_int:PySem.W.nsIn K mainGlobals "int"=some none)
  (z_isinstance:PySem.W.nsIn K mainGlobals "isinstance"=some none)
  (z_len:PySem.W.nsIn K mainGlobals "len"=some none)
  (z_list:PySem.W.nsIn K mainGlobals "list"=some none)
  (z_max:PySem.W.nsIn K mainGlobals "max"=some none)
  (z_min:PySem.W.nsIn K mainGlobals "min"=some none)
  (z_range:PySem.W.nsIn K mainGlobals "range"=some none)
  (z_set:PySem.W.nsIn K mainGlobals "set"=some none)
  (z_sorted:PySem.W.nsIn K mainGlobals "sorted"=some none)
  (z_str:PySem.W.nsIn K mainGlobals "str"=some none)
  (z_tuple:PySem.W.nsIn K mainGlobals "tuple"=some none)
  {tk_LONGEST_NAME:Tok} (z_LONGEST_NAME:PySem.W.nsIn K mainGlobals "LONGEST_NAME"=some (some (.int 8 tk_LONGEST_NAME)))
  {tk_MOST_BENCHES:Tok} (z_MOST_BENCHES:PySem.W.nsIn K mainGlobals "MOST_BENCHES"=some (some (.int 8 tk_MOST_BENCHES)))
  {tk_MOST_BREAKS:Tok} (z_MOST_BREAKS:PySem.W.nsIn K mainGlobals "MOST_BREAKS"=some (some (.int 10 tk_MOST_BREAKS)))
  {tk_MOST_HORIZON:Tok} (z_MOST_HORIZON:PySem.W.nsIn K mainGlobals "MOST_HORIZON"=some (some (.int 1000000 tk_MOST_HORIZON)))
  {tk_MOST_JOBS:Tok} (z_MOST_JOBS:PySem.W.nsIn K mainGlobals "MOST_JOBS"=some (some (.int 40 tk_MOST_JOBS)))
  {tk_MOST_LINKS:Tok} (z_MOST_LINKS:PySem.W.nsIn K mainGlobals "MOST_LINKS"=some (some (.int 100 tk_MOST_LINKS)))
  {tk_MOST_SETUPS:Tok} (z_MOST_SETUPS:PySem.W.nsIn K mainGlobals "MOST_SETUPS"=some (some (.int 100 tk_MOST_SETUPS)))
  {tk_MOST_STEPS:Tok} (z_MOST_STEPS:PySem.W.nsIn K mainGlobals "MOST_STEPS"=some (some (.int 40 tk_MOST_STEPS)))
  {tk_MOST_STOCKS:Tok} (z_MOST_STOCKS:PySem.W.nsIn K mainGlobals "MOST_STOCKS"=some (some (.int 6 tk_MOST_STOCKS)))
  {tk_MOST_WAYS:Tok} (z_MOST_WAYS:PySem.W.nsIn K mainGlobals "MOST_WAYS"=some (some (.int 4 tk_MOST_WAYS)))
  : ∃ fd:FuncData,(∀ (s:Shared) (v:Value),BindsTo s fd ⟨[v],[]⟩ [("_law_script",v)])/\∀ base:Heap,K.In base->base.Ns mainGlobals mg->FnOk l.prog w K mg base CX0 13 fa fd ["_law_script"] (zqe K):=by
 have e:=hfa.symm.trans (PySem.W.mg_of X G a60)
 have e2:=Value.ref.inj (qG e)
 subst e2
 have B:Bn mg:=⟨PySem.W.mg_none_of X G z_abs,PySem.W.mg_none_of X G z_all,PySem.W.mg_none_of X G z_any,PySem.W.mg_none_of X G z_bool,PySem.W.mg_none_of X G z_dict,PySem.W.mg_none_of X G z_enumerate,PySem.W.mg_none_of X G z_int,PySem.W.mg_none_of X G z_isinstance,PySem.W.mg_none_of X G z_len,PySem.W.mg_none_of X G z_list,PySem.W.mg_none_of X G z_max,PySem.W.mg_none_of X G z_min,PySem.W.mg_none_of X G z_range,PySem.W.mg_none_of X G z_set,PySem.W.mg_none_of X G z_sorted,PySem.W.mg_none_of X G z_str,PySem.W.mg_none_of X G z_tuple,by have q:=PySem.W.mg_of X G z_LONGEST_NAME;rw [q];unfold zeQ;rw [q],by have q:=PySem.W.mg_of X G z_MOST_BENCHES;rw [q];unfold zeP;rw [q],by have q:=PySem.W.mg_of X G z_MOST_BREAKS;rw [q];unfold zfu;rw [q],by have q:=PySem.W.mg_of X G z_MOST_HORIZON;rw [q];unfold zeO;rw [q],by have q:=PySem.W.mg_of X G z_MOST_JOBS;rw [q];unfold zgP;rw [q],by have q:=PySem.W.mg_of X G z_MOST_LINKS;rw [q];unfold zgi;rw [q],by have q:=PySem.W.mg_of X G z_MOST_SETUPS;rw [q];unfold zft;rw [q],by have q:=PySem.W.mg_of X G z_MOST_STEPS;rw [q];unfold zgh;rw [q],by have q:=PySem.W.mg_of X G z_MOST_STOCKS;rw [q];unfold zfs;rw [q],by have q:=PySem.W.mg_of X G z_MOST_WAYS;rw [q];unfold zgO;rw [q]⟩
 have O_Shop:ClsOk (Gam C_Shop) K mg "Shop" C_Shop:=⟨by unfold Gam;rfl,⟨pg_Shop,hd_Shop,po_Shop,sa_Shop⟩,PySem.W.mg_of X G aC_Shop,mk_Shop,kc_Shop⟩
 have cf_Shop:CF (Gam C_Shop) K "Shop" zc2:=O_Shop.cf (List.forall_mem_cons.mpr ⟨n0_Shop,(List.forall_mem_cons.mpr ⟨n1_Shop,(List.forall_mem_cons.mpr ⟨n2_Shop,(List.forall_mem_cons.mpr ⟨n3_Shop,(List.forall_mem_cons.mpr ⟨n4_Shop,(List.forall_mem_cons.mpr ⟨n5_Shop,(List.forall_mem_cons.mpr ⟨n6_Shop,(List.forall_mem_cons.mpr ⟨n7_Shop,(List.forall_mem_cons.mpr ⟨n8_Shop,(List.forall_mem_cons.mpr ⟨n9_Shop,(List.forall_mem_cons.mpr ⟨n10_Shop,(List.forall_mem_nil _)⟩)⟩)⟩)⟩)⟩)⟩)⟩)⟩)⟩)⟩)⟩)
 refine ⟨PySem.W.fnOf "law" "law" (zcC zgT) (zbu zgT) (zak zgT) .none kV60 dc60 pm60 an60 cd60 ct60,fun s v=>.of_eq rfl,fun base _ _=>?_⟩
 have C__law_cell:Cal (Gam C_Shop) l.prog w K mg base "_law_cell" 2 1 zar:=zjb d0 B
 have C__law_digits:Cal (Gam C_Shop) l.prog w K mg base "_law_digits" 3 1 zai:=zhr d1 B
 have C__law_spans:Cal (Gam C_Shop) l.prog w K mg base "_law_spans" 2 1 zbO:=zhY d2 B
 have C__law_name:Cal (Gam C_Shop) l.prog w K mg base "_law_name" 1 1 zas:=zi9 d3 B
 have C__law_benches:Cal (Gam C_Shop) l.prog w K mg base "_law_benches" 2 2 zbA:=zgG d4 B C__law_digits C__law_spans C__law_name
 have C__law_steps:Cal (Gam C_Shop) l.prog w K mg base "_law_steps" 4 2 zb1:=zhX d5 B C__law_digits C__law_name
 have C__law_jobs:Cal (Gam C_Shop) l.prog w K mg base "_law_jobs" 3 2 zck:=zja d6 B C__law_digits C__law_name
 have C__law_setups:Cal (Gam C_Shop) l.prog w K mg base "_law_setups" 3 2 zbP:=zhq d7 B C__law_digits
 have C__law_links:Cal (Gam C_Shop) l.prog w K mg base "_law_links" 3 2 zb3:=zh0 d8 B C__law_digits
 have C__law_stocks:Cal (Gam C_Shop) l.prog w K mg base "_law_stocks" 2 2 zbN:=zhp d9 B C__law_digits C__law_name
 have C__law_lists:CalO (Gam C_Shop) l.prog w K mg base "_law_lists" 4 3 zb2:=zhZ d10 B C__law_cell C__law_benches C__law_steps C__law_jobs C__law_setups C__law_links C__law_stocks
 have C_is_whole:Cal (Gam C_Shop) l.prog w K mg base "is_whole" 1 1 zcp:=zjT d11 B
 have C_is_within:Cal (Gam C_Shop) l.prog w K mg base "is_within" 3 2 zaI:=zi4 d12 B C_is_whole
 have C_is_tuple:Cal (Gam C_Shop) l.prog w K mg base "is_tuple" 2 1 zaC:=zjU d13 B
 have C_is_break:Cal (Gam C_Shop) l.prog w K mg base "is_break" 2 3 zcq:=zjV d14 B C_is_within C_is_tuple
 have C_is_list:Cal (Gam C_Shop) l.prog w K mg base "is_list" 3 1 zaq:=zkF d15 B
 have C_are_breaks:Cal (Gam C_Shop) l.prog w K mg base "are_breaks" 2 4 zb0:=zhV d16 B C_is_break C_is_list
 have C_is_name:Cal (Gam C_Shop) l.prog w K mg base "is_name" 1 1 za6:=zkE d17 B
 have C_is_bench:Cal (Gam C_Shop) l.prog w K mg base "is_bench" 2 5 zcr:=zjW d18 B C_are_breaks C_is_name C_is_tuple
 have C_are_unlike:Cal (Gam C_Shop) l.prog w K mg base "are_unlike" 1 1 zam:=zhS d19 B
 have C_are_benches:Cal (Gam C_Shop) l.prog w K mg base "are_benches" 2 6 zbM:=zho d20 B C_is_bench C_is_list C_are_unlike
 have C_is_one_of:Cal (Gam C_Shop) l.prog w K mg base "is_one_of" 2 2 zb5:=zi5 d21 B C_is_name
 have C_is_way:Cal (Gam C_Shop) l.prog w K mg base "is_way" 3 3 zc6:=zl5 d22 B C_is_within C_is_one_of C_is_tuple
 have C_are_ways:Cal (Gam C_Shop) l.prog w K mg base "are_ways" 3 4 zcy:=zjX d23 B C_is_way C_is_list C_are_unlike
 have C_is_step:Cal (Gam C_Shop) l.prog w K mg base "is_step" 3 5 zcF:=zkD d24 B C_is_name C_is_tuple C_are_ways
 have C_are_steps:Cal (Gam C_Shop) l.prog w K mg base "are_steps" 3 6 zch:=zi6 d25 B C_is_step C_is_list C_are_unlike
 have C_are_jobs:Cal (Gam C_Shop) l.prog w K mg base "are_jobs" 3 2 zcz:=zjY d26 B C_is_list C_are_unlike
 have C_are_setups:Cal (Gam C_Shop) l.prog w K mg base "are_setups" 3 2 zbZ:=zhU d27 B C_is_list C_are_unlike
 have C_are_links:Cal (Gam C_Shop) l.prog w K mg base "are_links" 3 2 zci:=zi7 d28 B C_is_list C_are_unlike
 have C_are_stocks:Cal (Gam C_Shop) l.prog w K mg base "are_stocks" 2 2 zbY:=zhT d29 B C_is_list C_are_unlike
 have C_first_bad_part:Cal (Gam C_Shop) l.prog w K mg base "first_bad_part" 7 7 zbg:=zfG d30 B C_is_within C_are_benches C_are_steps C_are_jobs C_are_setups C_are_links C_are_stocks
 have C_fresh:∀ n,Cal (Gam C_Shop) l.prog w K mg base "fresh" 1 n (zdx n):=fun n=>by
  induction n with
  | zero=>exact Dfn.none (ps:=["thing"]) d31 (fun _ _ _ _ _ _ us hl=>match us,hl with | [_],_=>rfl)
  | succ n ih=>exact znS d31 B ih
 replace C_fresh:Cal (Gam C_Shop) l.prog w K mg base "fresh" 1 8 zaz:=C_fresh 8
 have C_Shop___init__:CalI (Gam C_Shop) l.prog w K mg base "Shop" 7 9 zbq:=zga O_Shop d32 B C_first_bad_part C_fresh cf_Shop
 have C__law_shop:Cal (Gam C_Shop) l.prog w K mg base "_law_shop" 1 11 zcj:=zi8 d33 B C_Shop___init__
 have C__law_drawn:Cal (Gam C_Shop) l.prog w K mg base "_law_drawn" 2 2 zbz:=zh1 d34 B C__law_digits
 have C_Shop_step_names:CalM (Gam C_Shop) l.prog w K mg base "Shop" "step_names" 1 1 zah:=zfk O_Shop d35 B cf_Shop
 have C_Shop_ways_of:CalM (Gam C_Shop) l.prog w K mg base "Shop" "ways_of" 2 9 zbd:=zgH O_Shop d36 B C_fresh cf_Shop
 have C_length_on:Cal (Gam C_Shop) l.prog w K mg base "length_on" 3 10 zaT:=zi2 d37 B C_Shop_ways_of
 have C_ends_of:CalD (Gam C_Shop) l.prog w K mg base "ends_of" 2 11 zaN:=zkG d38 B C_Shop_step_names C_length_on
 have C_broken_step:Cal (Gam C_Shop) l.prog w K mg base "broken_step" 2 2 zbx:=zhm d39 B C_Shop_step_names
 have C_Shop_last_moment:CalM (Gam C_Shop) l.prog w K mg base "Shop" "last_moment" 1 1 zaF:=zeN O_Shop d40 B cf_Shop
 have C_broken_way:Cal (Gam C_Shop) l.prog w K mg base "broken_way" 2 11 zbK:=zhQ d41 B C_Shop_step_names C_length_on C_Shop_last_moment
 have C_Shop_job_of:CalM (Gam C_Shop) l.prog w K mg base "Shop" "job_of" 2 9 zbo:=zhs O_Shop d42 B C_fresh cf_Shop
 have C_broken_job:Cal (Gam C_Shop) l.prog w K mg base "broken_job" 3 10 zbL:=zhR d43 B C_Shop_step_names C_Shop_job_of
 have C_Shop_breaks_of:CalM (Gam C_Shop) l.prog w K mg base "Shop" "breaks_of" 2 9 zaW:=zfI O_Shop d44 B C_fresh cf_Shop
 have C_broken_break:Cal (Gam C_Shop) l.prog w K mg base "broken_break" 3 10 zbl:=zgD d45 B C_Shop_step_names C_Shop_breaks_of
 have C_pairs_of:Cal (Gam C_Shop) l.prog w K mg base "pairs_of" 1 1 zco:=zjS d46 B
 have C_Shop_setup_of:CalM (Gam C_Shop) l.prog w K mg base "Shop" "setup_of" 4 1 za7:=zf8 O_Shop d47 B cf_Shop
 have C_Shop_kind_of:CalM (Gam C_Shop) l.prog w K mg base "Shop" "kind_of" 2 1 zaV:=zgI O_Shop d48 B cf_Shop
 have C_are_too_close:Cal (Gam C_Shop) l.prog w K mg base "are_too_close" 5 2 zaU:=zf7 d49 B C_Shop_setup_of C_Shop_kind_of
 have C_broken_bench:Cal (Gam C_Shop) l.prog w K mg base "broken_bench" 3 3 zbm:=zgE d50 B C_Shop_step_names C_pairs_of C_are_too_close
 have C_Shop_job_rows:CalM (Gam C_Shop) l.prog w K mg base "Shop" "job_rows" 1 9 zbf:=zf9 O_Shop d51 B C_fresh cf_Shop
 have C_broken_apart:Cal (Gam C_Shop) l.prog w K mg base "broken_apart" 3 10 zbn:=zgF d52 B C_Shop_job_rows
 have C_Shop_link_rows:CalM (Gam C_Shop) l.prog w K mg base "Shop" "link_rows" 1 9 za8:=zfH O_Shop d53 B C_fresh cf_Shop
 have C_broken_link:Cal (Gam C_Shop) l.prog w K mg base "broken_link" 3 10 zby:=zhn d54 B C_Shop_link_rows
 have C_Shop_stock_rows:CalM (Gam C_Shop) l.prog w K mg base "Shop" "stock_rows" 1 9 zaY:=zfj O_Shop d55 B C_fresh cf_Shop
 have C_broken_stock:Cal (Gam C_Shop) l.prog w K mg base "broken_stock" 3 10 zbk:=zgC d56 B C_Shop_stock_rows
 have C_first_broken:Cal (Gam C_Shop) l.prog w K mg base "first_broken" 2 12 zbc:=zgB d57 B C_broken_step C_broken_way C_ends_of C_broken_job C_broken_break C_broken_bench C_broken_apart C_broken_link C_broken_stock
 have C_length_of:Cal (Gam C_Shop) l.prog w K mg base "length_of" 2 12 zbi:=zi3 d58 B C_ends_of
 have C__law_whole:Cal (Gam C_Shop) l.prog w K mg base "_law_whole" 1 1 za3:=zhW d59 B
 have FL:=znp (st:=zgT) l60 c60 k60
 have ok:FnOk l.prog w K mg base CX0 13 fa _ ["_law_script"] (spF (Gam C_Shop) K 1 zrY):=FL.okD (k:=12) zd5 (zrO B C__law_cell C__law_lists C__law_shop C__law_drawn C_ends_of C_first_broken C_length_of C__law_whole fa)
 refine ok.imp fun vs H Q E hq=>?_
 obtain ⟨a,ns,rfl,hS,hlen,k⟩:=hq
 exact ⟨H,[.scr ns],.bl true,zbV.refl H,.cons (.scr hS) .nil,rfl,zoP ns hlen,fun v G' H' _ r=>by rw [r.bl_inv];exact k H'⟩
theorem walk {l:PySem.W.OpenLaw} {q:Program} {loose:List Str} {XP:(Str->Option Value)->Heap->Prop} {YP:World->Heap->Prop} {d:DefRec} {K:Params->PySem.W.Frag} (hn:l.most=some 63) (hdf:d.params.defaults=[])
  (hY:∀ (w:World) (h:Heap),YP w h->(K w.params).In h)
  (F:∀ (w:World) (mg:Str->Option Value) (fa:Addr) (h:Heap),(K w.params).In h->h.Ns mainGlobals mg->mg d.name=some (.ref fa) ->
   ∃ fd:FuncData,(∀ (s:Shared) (u:Value),BindsTo s fd ⟨[u],[]⟩ [("_law_script",u)])/\∀ base:Heap,(K w.params).In base->base.Ns mainGlobals mg->FnOk l.prog w (K w.params) mg base CX0 13 fa fd ["_law_script"] (zqe (K w.params))) :
  PySem.W.WalkO q loose XP YP l.row.toRowW d [] (fun f vs=>PySem.call f vs) :=
 L2.walk_of (n:=63) (k:=13) (x:="_law_script") (CX:=fun _=>CX0) (sp:=fun w=>zqe (K w.params)) hn (by decide) hdf ⟨rfl,by decide,by decide⟩ hY F (fun _ _ a ns hl _ hS=>⟨a,ns,rfl,hS,hl,fun _=>rfl⟩) fun _ _ _ _ _ z=>z
end Law
def PySem.W.Fast.tw12232747462883398385:Unit:=()
def PySem.W.Fast.tw13962094191724176219:Unit:=()
def PySem.W.Fast.tw3630991761816679794:Unit:=()
def PySem.W.Fast.tw6833444861632453661:Unit:=()
def PySem.W.Fast.tw1706648006009045366:Unit:=()
def PySem.W.Fast.tw953905514180101888:Unit:=()
def PySem.W.Fast.tw8850110967649740812:Unit:=()
def PySem.W.Fast.tw17386397635428630206:Unit:=()
def PySem.W.Fast.tw16211173001998420912:Unit:=()
def PySem.W.Fast.tw11827168718972056697:Unit:=()
def PySem.W.Fast.tw7573916061535108307:Unit:=()
def PySem.W.Fast.tw10377958814015775681:Unit:=()
def PySem.W.Fast.tw13416479781730308044:Unit:=()
def PySem.W.Fast.tw9891179927691215474:Unit:=()
def PySem.W.Fast.tw2703305131459980888:Unit:=()
def PySem.W.Fast.tw7970587408030363735:Unit:=()
def PySem.W.Fast.tw9603987203636878825:Unit:=()
def PySem.W.Fast.tw3899194980366816415:Unit:=()
def PySem.W.Fast.tw11653976150188039218:Unit:=()
def PySem.W.Fast.tw11701351758471615871:Unit:=()
def PySem.W.Fast.tw2491952074720924042:Unit:=()
def PySem.W.Fast.tw14529639185700344172:Unit:=()
def PySem.W.Fast.tw9933595209455393613:Unit:=()
def PySem.W.Fast.tw6725108321742321:Unit:=()
def PySem.W.Fast.tw1521053526838350987:Unit:=()
def PySem.W.Fast.tw13269958537906186086:Unit:=()
def PySem.W.Fast.tw17641183119341385569:Unit:=()
def PySem.W.Fast.tw1816424466457317584:Unit:=()
def PySem.W.Fast.tw6990887423178881313:Unit:=()
def PySem.W.Fast.tw1988107413755984771:Unit:=()
def PySem.W.Fast.tw11167184036840032765:Unit:=()
def PySem.W.Fast.tw9519110338598323073:Unit:=()
def PySem.W.Fast.tw10758024077824798794:Unit:=()
def PySem.W.Fast.tw14985382659610142465:Unit:=()
def PySem.W.Fast.tw4235880330477230267:Unit:=()
def PySem.W.Fast.tw11497282913547083405:Unit:=()
def PySem.W.Fast.tw5406033684890086718:Unit:=()
def PySem.W.Fast.tw12894665224733481836:Unit:=()
def PySem.W.Fast.tw11992656223230394200:Unit:=()
def PySem.W.Fast.tw5432719956938020564:Unit:=()
def PySem.W.Fast.tw1538872518413169690:Unit:=()
def PySem.W.Fast.tw11606712732210269849:Unit:=()
def PySem.W.Fast.tw10658105588868591127:Unit:=()
def PySem.W.Fast.tw11811504658283307945:Unit:=()
def PySem.W.Fast.tw9895347530313909002:Unit:=()
def PySem.W.Fast.tw117317454211593816:Unit:=()
def PySem.W.Fast.tw13703882879481123624:Unit:=()
def PySem.W.Fast.tw33093845439426928:Unit:=()
def PySem.W.Fast.tw2686646253636046433:Unit:=()
def PySem.W.Fast.tw15879799786497079753:Unit:=()
def PySem.W.Fast.tw3662572837166653853:Unit:=()
def PySem.W.Fast.tw1318670583341251:Unit:=()
def PySem.W.Fast.tw3211798218177232479:Unit:=()
def PySem.W.Fast.tw9021446416683205091:Unit:=()
def PySem.W.Fast.tw6379465095000484826:Unit:=()
def PySem.W.Fast.tw18252088285474115723:Unit:=()
def PySem.W.Fast.tw2683953020693707663:Unit:=()
def PySem.W.Fast.tw4141207680459060081:Unit:=()
def PySem.W.Fast.tw3105110772522413920:Unit:=()
def PySem.W.Fast.tw10465886369200609472:Unit:=()
def PySem.W.Fast.tw1612909206216699856:Unit:=()
def PySem.W.Fast.tw7225222578826915096:Unit:=()
def PySem.W.Fast.tw5340130284101561267:Unit:=()
def PySem.W.Fast.tw8984108376534574821:Unit:=()
def PySem.W.Fast.tw4085617538986660745:Unit:=()
def PySem.W.Fast.tw4980030838327568343:Unit:=()
def PySem.W.Fast.tw10502411867881073726:Unit:=()
def PySem.W.Fast.tw4194195803631386185:Unit:=()
def PySem.W.Fast.tw3172151546775681222:Unit:=()
def PySem.W.Fast.tw8105441717261921577:Unit:=()
def PySem.W.Fast.tw15154250815070228696:Unit:=()
def PySem.W.Fast.tw11382367452951365574:Unit:=()
def PySem.W.Fast.tw13815734512048327684:Unit:=()
def PySem.W.Fast.tw14129399391193667847:Unit:=()
def PySem.W.Fast.tw16432118240965034423:Unit:=()
open PySem PySem.W PyProof.Rows L2
set_option maxRecDepth 100000 in
set_option maxHeartbeats 0 in
theorem PySem.Challenge.cw_shopbound_k22_lengths_and_ends_holds : PySem.Challenge.rw_shopbound_k22_lengths_and_ends.Holds := by
 w_on;o_law;k_head;(case hw=>w_witness2)
 k_fill
 refine Law.walk (l:=PySem.Challenge.rw_shopbound_k22_lengths_and_ends) rfl rfl (fun w h Y=>PySem.W.kIn_of Y) ?F
 case F =>
  intro w mg fa h KX G hmg
  refine' Law.all_mk KX G hmg ?aC_Shop ?d0 ?d1 ?d2 ?d3 ?d4 ?d5 ?d6 ?d7 ?d8 ?d9 ?d10 ?d11 ?d12 ?d13 ?d14 ?d15 ?d16 ?d17 ?d18 ?d19 ?d20 ?d21 ?d22 ?d23 ?d24 ?d25 ?d26 ?d27 ?d28 ?d29 ?d30 ?d31 ?d32 ?d33 ?d34 ?d35 ?d36 ?d37 ?d38 ?d39 ?d40 ?d41 ?d42 ?d43 ?d44 ?d45 ?d46 ?d47 ?d48 ?d49 ?d50 ?d51 ?d52 ?d53 ?d54 ?d55 ?d56 ?d57 ?d58 ?d59 ?a60 ?l60 ?c60 ?k60 ?pg_Shop ?hd_Shop ?po_Shop ?sa_Shop ?mk_Shop ?kc_Shop ?n0_Shop ?n1_Shop ?n2_Shop ?n3_Shop ?n4_Shop ?n5_Shop ?n6_Shop ?n7_Shop ?n8_Shop ?n9_Shop ?n10_Shop ?z_abs ?z_all ?z_any ?z_bool ?z_dict ?z_enumerate ?z_int ?z_isinstance ?z_len ?z_list ?z_max ?z_min ?z_range ?z_set ?z_sorted ?z_str ?z_tuple ?z_LONGEST_NAME ?z_MOST_BENCHES ?z_MOST_BREAKS ?z_MOST_HORIZON ?z_MOST_JOBS ?z_MOST_LINKS ?z_MOST_SETUPS ?z_MOST_STEPS ?z_MOST_STOCKS ?z_MOST_WAYS
  (case aC_Shop=>k_is)
  (case d0=>refine' Dfn.mk' KX G ?a ?l ?c ?k;(case a=>k_is);(case l=>k_is);(case c=>k_is);(case k=>k_is))
  (case d1=>refine' Dfn.mk' KX G ?a ?l ?c ?k;(case a=>k_is);(case l=>k_is);(case c=>k_is);(case k=>k_is))
  (case d2=>refine' Dfn.mk' KX G ?a ?l ?c ?k;(case a=>k_is);(case l=>k_is);(case c=>k_is);(case k=>k_is))
  (case d3=>refine' Dfn.mk' KX G ?a ?l ?c ?k;(case a=>k_is);(case l=>k_is);(case c=>k_is);(case k=>k_is))
  (case d4=>refine' Dfn.mk' KX G ?a ?l ?c ?k;(case a=>k_is);(case l=>k_is);(case c=>k_is);(case k=>k_is))
  (case d5=>refine' Dfn.mk' KX G ?a ?l ?c ?k;(case a=>k_is);(case l=>k_is);(case c=>k_is);(case k=>k_is))
  (case d6=>refine' Dfn.mk' KX G ?a ?l ?c ?k;(case a=>k_is);(case l=>k_is);(case c=>k_is);(case k=>k_is))
  (case d7=>refine' Dfn.mk' KX G ?a ?l ?c ?k;(case a=>k_is);(case l=>k_is);(case c=>k_is);(case k=>k_is))
  (case d8=>refine' Dfn.mk' KX G ?a ?l ?c ?k;(case a=>k_is);(case l=>k_is);(case c=>k_is);(case k=>k_is))
  (case d9=>refine' Dfn.mk' KX G ?a ?l ?c ?k;(case a=>k_is);(case l=>k_is);(case c=>k_is);(case k=>k_is))
  (case d10=>refine' Dfn.mk' KX G ?a ?l ?c ?k;(case a=>k_is);(case l=>k_is);(case c=>k_is);(case k=>k_is))
  (case d11=>refine' Dfn.mk' KX G ?a ?l ?c ?k;(case a=>k_is);(case l=>k_is);(case c=>k_is);(case k=>k_is))
  (case d12=>refine' Dfn.mk' KX G ?a ?l ?c ?k;(case a=>k_is);(case l=>k_is);(case c=>k_is);(case k=>k_is))
  (case d13=>refine' Dfn.mk' KX G ?a ?l ?c ?k;(case a=>k_is);(case l=>k_is);(case c=>k_is);(case k=>k_is))
  (case d14=>refine' Dfn.mk' KX G ?a ?l ?c ?k;(case a=>k_is);(case l=>k_is);(case c=>k_is);(case k=>k_is))
  (case d15=>refine' Dfn.mk' KX G ?a ?l ?c ?k;(case a=>k_is);(case l=>k_is);(case c=>k_is);(case k=>k_is))
  (case d16=>refine' Dfn.mk' KX G ?a ?l ?c ?k;(case a=>k_is);(case l=>k_is);(case c=>k_is);(case k=>k_is))
  (case d17=>refine' Dfn.mk' KX G ?a ?l ?c ?k;(case a=>k_is);(case l=>k_is);(case c=>k_is);(case k=>k_is))
  (case d18=>refine' Dfn.mk' KX G ?a ?l ?c ?k;(case a=>k_is);(case l=>k_is);(case c=>k_is);(case k=>k_is))
  (case d19=>refine' Dfn.mk' KX G ?a ?l ?c ?k;(case a=>k_is);(case l=>k_is);(case c=>k_is);(case k=>k_is))
  (case d20=>refine' Dfn.mk' KX G ?a ?l ?c ?k;(case a=>k_is);(case l=>k_is);(case c=>k_is);(case k=>k_is))
  (case d21=>refine' Dfn.mk' KX G ?a ?l ?c ?k;(case a=>k_is);(case l=>k_is);(case c=>k_is);(case k=>k_is))
  (case d22=>refine' Dfn.mk' KX G ?a ?l ?c ?k;(case a=>k_is);(case l=>k_is);(case c=>k_is);(case k=>k_is))
  (case d23=>refine' Dfn.mk' KX G ?a ?l ?c ?k;(case a=>k_is);(case l=>k_is);(case c=>k_is);(case k=>k_is))
  (case d24=>refine' Dfn.mk' KX G ?a ?l ?c ?k;(case a=>k_is);(case l=>k_is);(case c=>k_is);(case k=>k_is))
  (case d25=>refine' Dfn.mk' KX G ?a ?l ?c ?k;(case a=>k_is);(case l=>k_is);(case c=>k_is);(case k=>k_is))
  (case d26=>refine' Dfn.mk' KX G ?a ?l ?c ?k;(case a=>k_is);(case l=>k_is);(case c=>k_is);(case k=>k_is))
  (case d27=>refine' Dfn.mk' KX G ?a ?l ?c ?k;(case a=>k_is);(case l=>k_is);(case c=>k_is);(case k=>k_is))
  (case d28=>refine' Dfn.mk' KX G ?a ?l ?c ?k;(case a=>k_is);(case l=>k_is);(case c=>k_is);(case k=>k_is))
  (case d29=>refine' Dfn.mk' KX G ?a ?l ?c ?k;(case a=>k_is);(case l=>k_is);(case c=>k_is);(case k=>k_is))
  (case d30=>refine' Dfn.mk' KX G ?a ?l ?c ?k;(case a=>k_is);(case l=>k_is);(case c=>k_is);(case k=>k_is))
  (case d31=>refine' Dfn.mk' KX G ?a ?l ?c ?k;(case a=>k_is);(case l=>k_is);(case c=>k_is);(case k=>k_is))
  (case d32=>refine' DfnM.mk' ?a ?i ?l ?c ?k;(case a=>k_is);(case i=>k_is);(case l=>k_is);(case c=>k_is);(case k=>k_is))
  (case d33=>refine' Dfn.mk' KX G ?a ?l ?c ?k;(case a=>k_is);(case l=>k_is);(case c=>k_is);(case k=>k_is))
  (case d34=>refine' Dfn.mk' KX G ?a ?l ?c ?k;(case a=>k_is);(case l=>k_is);(case c=>k_is);(case k=>k_is))
  (case d35=>refine' DfnM.mk' ?a ?i ?l ?c ?k;(case a=>k_is);(case i=>k_is);(case l=>k_is);(case c=>k_is);(case k=>k_is))
  (case d36=>refine' DfnM.mk' ?a ?i ?l ?c ?k;(case a=>k_is);(case i=>k_is);(case l=>k_is);(case c=>k_is);(case k=>k_is))
  (case d37=>refine' Dfn.mk' KX G ?a ?l ?c ?k;(case a=>k_is);(case l=>k_is);(case c=>k_is);(case k=>k_is))
  (case d38=>refine' Dfn.mk' KX G ?a ?l ?c ?k;(case a=>k_is);(case l=>k_is);(case c=>k_is);(case k=>k_is))
  (case d39=>refine' Dfn.mk' KX G ?a ?l ?c ?k;(case a=>k_is);(case l=>k_is);(case c=>k_is);(case k=>k_is))
  (case d40=>refine' DfnM.mk' ?a ?i ?l ?c ?k;(case a=>k_is);(case i=>k_is);(case l=>k_is);(case c=>k_is);(case k=>k_is))
  (case d41=>refine' Dfn.mk' KX G ?a ?l ?c ?k;(case a=>k_is);(case l=>k_is);(case c=>k_is);(case k=>k_is))
  (case d42=>refine' DfnM.mk' ?a ?i ?l ?c ?k;(case a=>k_is);(case i=>k_is);(case l=>k_is);(case c=>k_is);(case k=>k_is))
  (case d43=>refine' Dfn.mk' KX G ?a ?l ?c ?k;(case a=>k_is);(case l=>k_is);(case c=>k_is);(case k=>k_is))
  (case d44=>refine' DfnM.mk' ?a ?i ?l ?c ?k;(case a=>k_is);(case i=>k_is);(case l=>k_is);(case c=>k_is);(case k=>k_is))
  (case d45=>refine' Dfn.mk' KX G ?a ?l ?c ?k;(case a=>k_is);(case l=>k_is);(case c=>k_is);(case k=>k_is))
  (case d46=>refine' Dfn.mk' KX G ?a ?l ?c ?k;(case a=>k_is);(case l=>k_is);(case c=>k_is);(case k=>k_is))
  (case d47=>refine' DfnM.mk' ?a ?i ?l ?c ?k;(case a=>k_is);(case i=>k_is);(case l=>k_is);(case c=>k_is);(case k=>k_is))
  (case d48=>refine' DfnM.mk' ?a ?i ?l ?c ?k;(case a=>k_is);(case i=>k_is);(case l=>k_is);(case c=>k_is);(case k=>k_is))
  (case d49=>refine' Dfn.mk' KX G ?a ?l ?c ?k;(case a=>k_is);(case l=>k_is);(case c=>k_is);(case k=>k_is))
  (case d50=>refine' Dfn.mk' KX G ?a ?l ?c ?k;(case a=>k_is);(case l=>k_is);(case c=>k_is);(case k=>k_is))
  (case d51=>refine' DfnM.mk' ?a ?i ?l ?c ?k;(case a=>k_is);(case i=>k_is);(case l=>k_is);(case c=>k_is);(case k=>k_is))
  (case d52=>refine' Dfn.mk' KX G ?a ?l ?c ?k;(case a=>k_is);(case l=>k_is);(case c=>k_is);(case k=>k_is))
  (case d53=>refine' DfnM.mk' ?a ?i ?l ?c ?k;(case a=>k_is);(case i=>k_is);(case l=>k_is);(case c=>k_is);(case k=>k_is))
  (case d54=>refine' Dfn.mk' KX G ?a ?l ?c ?k;(case a=>k_is);(case l=>k_is);(case c=>k_is);(case k=>k_is))
  (case d55=>refine' DfnM.mk' ?a ?i ?l ?c ?k;(case a=>k_is);(case i=>k_is);(case l=>k_is);(case c=>k_is);(case k=>k_is))
  (case d56=>refine' Dfn.mk' KX G ?a ?l ?c ?k;(case a=>k_is);(case l=>k_is);(case c=>k_is);(case k=>k_is))
  (case d57=>refine' Dfn.mk' KX G ?a ?l ?c ?k;(case a=>k_is);(case l=>k_is);(case c=>k_is);(case k=>k_is))
  (case d58=>refine' Dfn.mk' KX G ?a ?l ?c ?k;(case a=>k_is);(case l=>k_is);(case c=>k_is);(case k=>k_is))
  (case d59=>refine' Dfn.mk' KX G ?a ?l ?c ?k;(case a=>k_is);(case l=>k_is);(case c=>k_is);(case k=>k_is))
  (case a60=>k_is)
  (case l60=>k_is)
  (case c60=>k_is)
  (case k60=>k_is)
  (case pg_Shop=>k_is)
  (case hd_Shop=>k_is)
  (case po_Shop=>k_is)
  (case sa_Shop=>k_is)
  (case mk_Shop=>k_is)
  (case kc_Shop=>k_is)
  (case n0_Shop=>k_is)
  (case n1_Shop=>k_is)
  (case n2_Shop=>k_is)
  (case n3_Shop=>k_is)
  (case n4_Shop=>k_is)
  (case n5_Shop=>k_is)
  (case n6_Shop=>k_is)
  (case n7_Shop=>k_is)
  (case n8_Shop=>k_is)
  (case n9_Shop=>k_is)
  (case n10_Shop=>k_is)
  (case z_abs=>k_is)
  (case z_all=>k_is)
  (case z_any=>k_is)
  (case z_bool=>k_is)
  (case z_dict=>k_is)
  (case z_enumerate=>k_is)
  (case z_int=>k_is)
  (case z_isinstance=>k_is)
  (case z_len=>k_is)
  (case z_list=>k_is)
  (case z_max=>k_is)
  (case z_min=>k_is)
  (case z_range=>k_is)
  (case z_set=>k_is)
  (case z_sorted=>k_is)
  (case z_str=>k_is)
  (case z_tuple=>k_is)
  (case z_LONGEST_NAME=>k_is)
  (case z_MOST_BENCHES=>k_is)
  (case z_MOST_BREAKS=>k_is)
  (case z_MOST_HORIZON=>k_is)
  (case z_MOST_JOBS=>k_is)
  (case z_MOST_LINKS=>k_is)
  (case z_MOST_SETUPS=>k_is)
  (case z_MOST_STEPS=>k_is)
  (case z_MOST_STOCKS=>k_is)
  (case z_MOST_WAYS=>k_is)
end
end
