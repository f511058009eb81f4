import PyProof.Rows.All
import Wide.All
import OpenK.AllK
import Wide.FinOn
import Lean
import PyProof.EqAt
import PyProof.EqKinds
import PyProof.TupleCall
import KE.KTryMore
import PyProof.ExcAttrAll.ValueError
import PyProof.ExcClass3
import PyProof.InstStoreFacts
import KE.KDictList
import KE.KEqDict
import KE.KDictSum
import PyProof.Rows.SortStr
import PyProof.Draws
import PyProof.EnumMake
import KE.KRevIter
import PyProof.TupleOps
import PyProof.Rows.Tup
import PyProof.ListNew
import PyProof.ListStr
import PyProof.CollectWalk
import KE.KDictOf
import PyProof.AttrMissHeap
import KE.LcSums
import PyProof.StrCalls
import PySem.Challenge.RW_formsmith_k15_clear_or_not
noncomputable section
set_option Elab.async false
set_option linter.all false
set_option maxRecDepth 100000
namespace L2
open PySem PySem.Spec PyProof.Rows
abbrev Key:=Sum Int Str
noncomputable def mG:Key→Value→Bool
 |.inl k,v=>Value.isInt k v
 |.inr x,v=>Value.isStrOf x v
noncomputable def KS(w:World):Key→Int
 |.inl k=>hashInt k
 |.inr x=>hashStr w x
theorem bJ:∀{k:Key}{v:Value},mG k v=true→(∃i t,k=Sum.inl i∧v=Value.int i t)∨(∃x t,k=Sum.inr x∧v=Value.str x t)
 |.inl i,v,h=>by obtain⟨t,e⟩:=Value.isInt_shape (k:=i) (v:=v) h;exact .inl ⟨i,t,rfl,e⟩
 |.inr x,v,h=>by obtain⟨t,e⟩:=Value.isStrOf_shape (x:=x) (v:=v) h;exact .inr ⟨x,t,rfl,e⟩
theorem yB(i:Int)(t:Tok):mG (.inl i) (.int i t)=true:=by simp[mG,Value.isInt]
theorem yA(x:Str)(t:Tok):mG (.inr x) (.str x t)=true:=by simp[mG,Value.isStrOf]
theorem GZ(a b:Int):decide ((Sum.inl a:Key)=Sum.inl b)=(a==b):=by
 by_cases e:a=b
 ·subst e;simp
 ·have h:¬ (Sum.inl a:Key)=Sum.inl b:=fun q=>e (Sum.inl.inj q);rw[decide_eq_false h];exact(beq_eq_false_iff_ne.mpr e).symm
theorem GW(a b:Str):decide ((Sum.inr a:Key)=Sum.inr b)=decide (a=b):=by
 by_cases e:a=b
 ·subst e;simp
 ·have h:¬ (Sum.inr a:Key)=Sum.inr b:=fun q=>e (Sum.inr.inj q);rw[decide_eq_false h,decide_eq_false e]
theorem GY(a:Int)(b:Str):decide ((Sum.inl a:Key)=Sum.inr b)=false:=decide_eq_false (fun q=>nomatch q)
theorem GX(a:Str)(b:Int):decide ((Sum.inr a:Key)=Sum.inl b)=false:=decide_eq_false (fun q=>nomatch q)
def aY(prog:Program)(w:World):PySem.KeyKind prog w Key where
 is:=mG
 hash:=KS w
 inj:=fun v a b ha hb=>by
  rcases bJ ha with⟨i,t,rfl,rfl⟩|⟨x,t,rfl,rfl⟩
  ·rcases bJ hb with⟨j,u,rfl,e⟩|⟨y,u,rfl,e⟩
   ·injection e with e1 _;rw[e1]
   ·exact nomatch e
  ·rcases bJ hb with⟨j,u,rfl,e⟩|⟨y,u,rfl,e⟩
   ·exact nomatch e
   ·injection e with e1 _;rw[e1]
 byValue:=fun k v h=>by rcases bJ h with⟨i,t,rfl,rfl⟩|⟨x,t,rfl,rfl⟩<;>rfl
 pyHash:=fun hv h=>by
  rcases bJ hv with⟨i,t,rfl,rfl⟩|⟨x,t,rfl,rfl⟩
  ·exact wpAny_pyHash_int h
  ·exact wpAny_pyHash_str h
 eqBool:=fun hu hv h=>by
  rcases bJ hu with⟨i,t,rfl,rfl⟩|⟨x,t,rfl,rfl⟩
  ·rcases bJ hv with⟨j,u,rfl,rfl⟩|⟨y,u,rfl,rfl⟩
   ·rw[GZ]at h;exact wpAny_eqBool_int h
   ·rw[GY]at h;exact SeqAt.EqAt.int_str i t y u _ _ _ _ h
  ·rcases bJ hv with⟨j,u,rfl,rfl⟩|⟨y,u,rfl,rfl⟩
   ·rw[GX]at h;exact SeqAt.EqAt.str_int x t j u _ _ _ _ h
   ·rw[GW]at h;exact wpAny_eqBool_str h
 «strs» :=fun k x t v h=>by
  rcases bJ h with⟨i,u,rfl,e⟩|⟨y,u,rfl,e⟩
  ·exact nomatch e
  ·injection e with e1 _
   subst e1
   cases v<;>rfl
theorem uU(prog:Program)(w:World)(k:Key)(v:Value):(aY prog w).is k v=mG k v:=rfl
theorem sU(prog:Program)(w:World)(i:Int)(t:Tok):(aY prog w).is (.inl i) (.int i t)=true:=yB i t
theorem sT(prog:Program)(w:World)(x:Str)(t:Tok):(aY prog w).is (.inr x) (.str x t)=true:=yA x t
inductive V where
 |non|bl (b:Bool)|int (i:Int)|str (x:Str)|Xb (b:Array UInt8)|flt (b:UInt64)|ref (a:Addr)|ty (n:String)
 deriving DecidableEq
def aX:V→Value→Prop
 |.non,u=>u=Value.none
 |.bl b,u=>u=Value.bool b
 |.int i,u=>∃t,u=Value.int i t
 |.str x,u=>∃t,u=Value.str x t
 |.Xb b,u=>∃t,u=Value.bytes b t
 |.flt b,u=>∃t,u=Value.float b t
 |.ref a,u=>u=Value.ref a
 |.ty n,u=>u=Value.type n
abbrev aR:List V→List Value→Prop:=Paired aX
theorem aR.length{xs:List V}{us:List Value}(r:aR xs us):xs.length=us.length:=Paired.length r
theorem aR.get:∀{xs:List V}{us:List Value}{i:Nat}{x:V},aR xs us→xs[i]? =some x→∃u,us[i]? =some u∧aX x u
 |_,_,_,_,.nil,e=>by simp at e
 |_,_,0,_,.cons r _,e=>by simp at e;subst e;exact⟨_,rfl,r⟩
 |_,_,i+1,x,.cons _ t,e=>by obtain⟨u,h1,h2⟩:=aR.get (i:=i) (x:=x) t (by simpa using e);exact⟨u,by simpa using h1,h2⟩
theorem aR.set{x:V}{u:Value}(r:aX x u):∀{xs:List V}{us:List Value}(i:Nat),aR xs us→aR (xs.set i x) (us.set i u)
 |_,_,_,.nil=>.nil
 |_,_,0,.cons _ t=>.cons r t
 |_,_,i+1,.cons q t=>.cons q (aR.set r i t)
theorem aR.append:∀{xs ys:List V}{us ws:List Value},aR xs us→aR ys ws→aR (xs++ys) (us++ws)
 |_,_,_,_,.nil,s=>s
 |_,_,_,_,.cons r t,s=>.cons r (aR.append t s)
theorem aR.take:∀{xs:List V}{us:List Value}(n:Nat),aR xs us→aR (xs.take n) (us.take n)
 |_,_,0,_=>.nil
 |_,_,_+1,.nil=>.nil
 |_,_,n+1,.cons r t=>.cons r (aR.take n t)
theorem aR.drop:∀{xs:List V}{us:List Value}(n:Nat),aR xs us→aR (xs.drop n) (us.drop n)
 |_,_,0,r=>r
 |_,_,_+1,.nil=>.nil
 |_,_,n+1,.cons _ t=>aR.drop n t
def jj:Option V→Option Value→Prop
 |some v,some u=>aX v u
 |none,none=>True
 |_,_=>False
def KV{κ:Type}:List (κ×V)→List (κ×Value)→Prop:=Paired fun(p:κ×V)(q:κ×Value)=>p.1=q.1∧aX p.2 q.2
noncomputable def kV:Key→V
 |.inl i=>.int i
 |.inr x=>.str x
inductive HO where
 |lst (xs:List V)
 |tup (xs:List V)
 |dK (kvs:List (Key×V))|dT (kvs:List (List Key×V))
 |set (S:Int→Bool) (n:Nat)
 |ins (C dx:Addr) (fs:List (Str×V))
 |own (x:Addr)
 |xd (fs:List (Str×V))
 |met (f x:Addr)
 |rng (lo hi:Int)
 |Py (o:Obj) (u:HO)
 |UW (ps:Array Value)
 |ext (φ:Heap→Prop)
abbrev Hp:=Addr→Option HO
noncomputable def upd(H:Hp)(a:Addr)(o:HO):Hp:=fun b=>if b=a then some o else H b
theorem aK{H:Hp}{a:Addr}{o:HO}:upd H a o a=some o:=by unfold upd;rw[if_pos rfl]
theorem aj{H:Hp}{a b:Addr}{o:HO}(h:b≠a):upd H a o b=H b:=by unfold upd;rw[if_neg h]
theorem BS{H:Hp}{a:Addr}{o u:HO}:upd (upd H a o) a u=upd H a u:=by funext b;unfold upd;split<;>rfl
theorem pS{H:Hp}{a b:Addr}{o u:HO}(h:H a=some o)(h':H b=some u)(d:o≠u):a≠b:=by intro e;subst e;rw[h]at h';exact d (Option.some.inj h')
theorem aE{H:Hp}{a b:Addr}{o:HO}(h:H a=some o)(h':H b=none):a≠b:=by intro e;subst e;rw[h]at h';cases h'
section
variable(P:Program)(w:World)
def bN(H:Hp)(h:Heap)(a:Addr):HO→Prop
 |.lst xs=>xs.length≤sizeLine∧∃(its:List Value)(n:Nat),aR xs its∧h.get? a=some { cls:=.type "list",data:=.seq its.toArray n }
 |.tup xs=>xs.length≤sizeLine∧∃its:List Value,aR xs its∧IsTup h a its.toArray
 |.dK kvs=>kvs.length≤sizeLine∧(a==sysModules)=false∧∃vs,KV kvs vs∧h.DictOf (aY P w) a vs
 |.dT kvs=>kvs.length≤sizeLine∧(a==sysModules)=false∧∃xs:List (List Key×Addr×Value),
   Paired (fun(p:List Key×V)(q:List Key×Addr×Value)=>p.1=q.1∧H q.2.1=some (.tup (p.1.map kV))∧aX p.2 q.2.2) kvs xs∧
   ∃o es ep,h.get? a=some o∧o.ExactDict∧o.data=.dict es ep∧es.toList=xs.map (entryOfKey (tupleKind (aY P w)))∧(xs.map (·.1)).Nodup
 |.set S n=>h.SetOf (intKind P w) a S n
 |.ins C dx fs=>H dx=some (.own a)∧fs.length≤1000∧dx≠a∧h.get? a=some (W.instObj C dx)∧
   ∃mA,h.Ns1 dx mA∧(∀f,jj (fs.lookup f) (mA f))∧PySem.Within mA (fs.map (·.1))
 |.own _=>∃o,h.get? a=some o
 |.xd fs=>∃mA,h.Ns1 a mA∧∀f,jj (fs.lookup f) (mA f)
 |.rng lo hi=>∃t u v,h.get? a=some { cls:=.type "range",data:=.fields #[.int lo t,.int hi u,.int 1 v] }
 |.Py o u=>h.get? a=some o∧bN H h a u
 |.UW ps=>h.get? a=some { cls:=.none,data:=.fields ps }
 |.met f x=>h.get? a=some (W.methodObj (.ref f) (.ref x))
 |.ext φ=>φ h∧(∃o,h.get? a=some o)∧∀h1 h2:Heap,φ h1→(∀o,h1.get? a=some o→h2.get? a=some o)→φ h2
def Oc(H:Hp)(h:Heap):Prop:=∀a o,H a=some o→bN P w H h a o
end
section
variable{P:Program}{w:World}{H H':Hp}{h h':Heap}{a:Addr}{o:HO}
theorem bN.lt(x:bN P w H h a o):a<h.objs.size:=by
 cases o with
 |lst xs=>obtain⟨_,_,_,_,e⟩:=x;exact Heap.lt_size e
 |tup xs=>obtain⟨_,_,_,p⟩:=x;exact p.lt
 |dK kvs=>obtain⟨_,_,_,_,o,_,_,e,_⟩:=x;exact Heap.lt_size e
 |dT kvs=>obtain⟨_,_,_,_,o,_,_,e,_⟩:=x;exact Heap.lt_size e
 |set S n=>obtain⟨o,_,_,_,e,_⟩:=x;exact Heap.lt_size e
 |ins C dx fs=>obtain⟨_,_,_,e,_⟩:=x;exact Heap.lt_size e
 |own y=>obtain⟨_,e⟩:=x;exact Heap.lt_size e
 |xd fs=>obtain⟨_,⟨_,_,_,e,_⟩,_⟩:=x;exact Heap.lt_size e
 |rng lo hi=>obtain⟨_,_,_,e⟩:=x;exact Heap.lt_size e
 |Py ob u=>obtain⟨e,_⟩:=x;exact Heap.lt_size e
 |UW ps=>exact Heap.lt_size (show h.get? a=some _ from x)
 |met f y=>exact Heap.lt_size (show h.get? a=some _ from x)
 |ext φ=>obtain⟨_,⟨_,e⟩,_⟩:=x;exact Heap.lt_size e
theorem Paired.Vo{α β:Type}{F G:α→β→Prop}:∀{l₁:List α}{l₂:List β},Paired F l₁ l₂→(∀a b,F a b→G a b)→Paired G l₁ l₂
 |_,_,.nil,_=>.nil
 |_,_,.cons r t,f=>.cons (f _ _ r) (Paired.Vo t f)
theorem bN.stay(x:bN P w H h a o)(k:∀b u,(b=a∨H b=some (.own a))→h.get? b=some u→h'.get? b=some u)
  (ho:∀b,H b=some (.own a)→H' b=some (.own a)) (ht:∀b xs,H b=some (.tup xs)→H' b=some (.tup xs)):bN P w H' h' a o:=by
 induction o with
 |lst xs=>obtain⟨z,its,n,r,e⟩:=x;exact⟨z,its,n,r,k _ _ (.inl rfl) e⟩
 |tup xs=>obtain⟨z,its,r,ob,e,c⟩:=x;exact⟨z,its,r,ob,k _ _ (.inl rfl) e,c⟩
 |dK kvs=>obtain⟨z,y,vs,r,ob,es,ep,e,c⟩:=x;exact⟨z,y,vs,r,ob,es,ep,k _ _ (.inl rfl) e,c⟩
 |dT kvs=>obtain⟨z,y,xs,r,ob,es,ep,e,c⟩:=x;exact⟨z,y,xs,Paired.Vo r fun p q z=>⟨z.1,ht _ _ z.2.1,z.2.2⟩,ob,es,ep,k _ _ (.inl rfl) e,c⟩
 |set S n=>obtain⟨ob,es,ep,t,e,c⟩:=x;exact⟨ob,es,ep,t,k _ _ (.inl rfl) e,c⟩
 |ins C dx fs=>obtain⟨d,z,ne,e,mA,⟨od,es,ep,e2,c⟩,r⟩:=x;exact⟨ho _ d,z,ne,k _ _ (.inl rfl) e,mA,⟨od,es,ep,k _ _ (.inr d) e2,c⟩,r⟩
 |own y=>obtain⟨ob,e⟩:=x;exact⟨ob,k _ _ (.inl rfl) e⟩
 |xd fs=>obtain⟨mA,⟨od,es,ep,e,c⟩,r⟩:=x;exact⟨mA,⟨od,es,ep,k _ _ (.inl rfl) e,c⟩,r⟩
 |rng lo hi=>obtain⟨t,u,v,e⟩:=x;exact⟨t,u,v,k _ _ (.inl rfl) e⟩
 |Py ob u ih=>obtain⟨e,q⟩:=x;exact⟨k _ _ (.inl rfl) e,ih q⟩
 |UW ps=>have e:h.get? a=some { cls:=.none,data:=.fields ps }:=x;show h'.get? a=some { cls:=.none,data:=.fields ps };exact k a _ (.inl rfl) e
 |met f y=>have e:h.get? a=some (W.methodObj (.ref f) (.ref y)):=x;show h'.get? a=some (W.methodObj (.ref f) (.ref y));exact k a _ (.inl rfl) e
 |ext φ=>obtain⟨p,⟨o,e⟩,st⟩:=x;exact⟨st _ _ p fun o q=>k _ _ (.inl rfl) q,⟨o,k _ _ (.inl rfl) e⟩,st⟩
theorem Oc.lt(x:Oc P w H h)(e:H a=some o):a<h.objs.size:=(x a o e).lt
theorem Oc.fresh(x:Oc P w H h)(e:h.objs.size≤a):H a=none:=by
 cases q:H a with
 |none=>rfl
 |some u=>exact absurd (Nat.lt_of_lt_of_le (x.lt q) e) (Nat.lt_irrefl _)
theorem Oc.kept(x:Oc P w H h)(k:∀b u,h.get? b=some u→h'.get? b=some u):Oc P w H h':=fun a o e=>(x a o e).stay (fun b u _ q=>k b u q) (fun _ q=>q) fun _ _ q=>q
theorem Oc.laid(x:Oc P w H h)(k:∀b u,h.get? b=some u→h'.get? b=some u)(hp:h.objs.size≤a)(new:bN P w (upd H a o) h' a o):Oc P w (upd H a o) h':=fun b u e=>by
 have hn:=x.fresh hp
 by_cases hb:b=a
 ·subst hb;rw[aK]at e;cases e;exact new
 ·rw[aj hb]at e;exact(x b u e).stay (fun c v _ q=>k c v q) (fun c q=>by rw[aj (aE q hn)];exact q) fun c xs q=>by rw[aj (aE q hn)];exact q
end
def Rd(H:Hp)(a:Addr)(u:HO):Prop:=H a=some u∨∃o,H a=some (.Py o u)
theorem Rd.ok{P:Program}{w:World}{H:Hp}{h:Heap}{a:Addr}{u:HO}(r:Rd H a u)(x:Oc P w H h):bN P w H h a u:=by
 rcases r with r|⟨o,r⟩
 ·exact x a u r
 ·obtain⟨_,q⟩:=x a _ r;exact q
def Xg:Option HO→Prop
 |some (.lst _)=>True
 |some (.dK _)=>True
 |some (.dT _)=>True
 |some (.set _ _)=>True
 |some (.ins _ _ _)=>True
 |some (.ext _)=>True
 |_=>False
section
variable{P:Program}{w:World}{H:Hp}{h h':Heap}{x e:Addr}{o':HO}
theorem Oc.write(ok:Oc P w H h)(mu:Xg (H x))(he:e=x∨H e=some (.own x))(k:∀b u,b≠e→h.get? b=some u→h'.get? b=some u)(V8:∃u,h'.get? e=some u)
  (new:bN P w (upd H x o') h' x o'):Oc P w (upd H x o') h':=fun b u q=>by
 have Wu:∀c y,H c=some (.own y)→c≠x:=fun c y r z=>by subst z;rw[r]at mu;exact mu
 have Yq:∀c xs,H c=some (.tup xs)→c≠x:=fun c xs r z=>by subst z;rw[r]at mu;exact mu
 by_cases hb:b=x
 ·subst hb;rw[aK]at q;cases q;exact new
 ·rw[aj hb]at q
  by_cases hbe:b=e
  ·have q':H b=some (.own x):=by
    rcases he with z|z
    ·exact absurd (hbe.trans z) hb
    ·rw[hbe];exact z
   rw[q]at q';cases q';obtain⟨v,hv⟩:=V8;exact⟨v,by rw[hbe];exact hv⟩
  ·refine(ok b u q).stay (fun c v hc r=>k c v ?_ r) (fun c r=>by rw[aj (Wu c b r)];exact r) fun c xs r=>by rw[aj (Yq c xs r)];exact r
   rcases hc with rfl|hc
   ·exact hbe
   ·rintro rfl
    rcases he with z|z
    ·exact Wu c b hc z
    ·rw[hc]at z;cases z;exact hb rfl
end
structure Un(fs ex:List Addr)(H H':Hp)(h h':Heap):Prop where
 keep:∀b o,h.get? b=some o→H b=none→b∉fs→b∉ex→h'.get? b=some o
 slot:∀b o,h.get? b=some o→H b=none→b∈fs→b∉ex→∃sl,h'.get? b=some { o with slots:=sl }
 free:∀b o,h.get? b=some o→H b=none→b∉ex→H' b=none
 there:∀b o,h.get? b=some o→b∉ex→∃o',h'.get? b=some o'
 tups:∀b xs,H b=some (.tup xs)→H' b=some (.tup xs)
 Ms:∀b o u,H b=some (.Py o u)→H' b=some (.Py o u)
 Rb:∀b ps,H b=some (.UW ps)→∃more,H' b=some (.UW (ps++more))
section
variable{fs fs' ex ex':List Addr}{H H1 H2:Hp}{h h1 h2 h':Heap}{a x e:Addr}{o:HO}
theorem Un.any(u:Un fs ex H H1 h h1){b:Addr}{ob:Obj}(q:h.get? b=some ob)(n:H b=none)(hx:b∉ex):∃sl,h1.get? b=some { ob with slots:=sl }:=by
 by_cases hb:b∈fs
 ·exact u.slot b ob q n hb hx
 ·exact⟨ob.slots,u.keep b ob q n hb hx⟩
theorem Un.kept(k:∀b u,h.get? b=some u→h'.get? b=some u):Un fs ex H H h h':=
 ⟨fun b ob q _ _ _=>k b ob q,fun b ob q _ _ _=>⟨ob.slots,k b ob q⟩,fun _ _ _ n _=>n,fun b ob q _=>⟨ob,k b ob q⟩,fun _ _ q=>q,fun _ _ _ q=>q,fun _ ps q=>⟨#[],by rw[q];simp⟩⟩
theorem Un.refl:Un fs ex H H h h:=Un.kept fun _ _ q=>q
theorem Un.laid(k:∀b u,h.get? b=some u→h'.get? b=some u)(hp:h.objs.size≤a)(hn:H a=none):Un fs ex H (upd H a o) h h' where
 keep:=fun b u q _ _ _=>k b u q
 slot:=fun b u q _ _ _=>⟨u.slots,k b u q⟩
 free:=fun b u q n _=>by rw[aj (Nat.ne_of_lt (Nat.lt_of_lt_of_le (Heap.lt_size q) hp))];exact n
 there:=fun b u q _=>⟨u,k b u q⟩
 tups:=fun b xs q=>by rw[aj (aE q hn)];exact q
 Ms:=fun b u xs q=>by rw[aj (aE q hn)];exact q
 Rb:=fun b ps q=>⟨#[],by rw[aj (aE q hn),q];simp⟩
theorem Un.write(mu:Xg (H x))(he:e=x∨H e=some (.own x))(k:∀b u,b≠e→h.get? b=some u→h'.get? b=some u)(V8:∃u,h'.get? e=some u):Un fs ex H (upd H x o) h h':=by
 have hx:∀b,H b=none→b≠x:=fun b n z=>by subst z;rw[n]at mu;exact mu
 have hb:∀b,H b=none→b≠e:=fun b n z=>by
  subst z;rcases he with r|r
  ·exact hx b n r
  ·rw[n]at r;cases r
 have hm:∀b u,H b=some u→¬ Xg (some u)→b≠x:=fun b u q nm z=>by subst z;rw[q]at mu;exact nm mu
 refine⟨fun b u q n _ _=>k b u (hb b n) q,fun b u q n _ _=>⟨u.slots,k b u (hb b n) q⟩,fun b u q n _=>by rw[aj (hx b n)];exact n,fun b u q _=>?_,
  fun b xs q=>by rw[aj (hm b _ q fun z=>z)];exact q,fun b u xs q=>by rw[aj (hm b _ q fun z=>z)];exact q,fun b ps q=>⟨#[],by rw[aj (hm b _ q fun z=>z),q];simp⟩⟩
 by_cases hbe:b=e
 ·subst hbe;exact V8
 ·exact⟨u,k b u hbe q⟩
end
noncomputable def Xn(h:Heap)(H:Hp):List Addr:=(List.range h.objs.size).filter fun a=>(H a).isSome
def qV(h:Heap)(H:Hp):Heap:=W.hideAll h (Xn h H)
theorem yD(h:Heap)(H:Hp):(qV h H).objs.size=h.objs.size:=W.hideAll_size _ _
theorem Bg{h:Heap}{H:Hp}{b:Addr}{o:Obj}(e:h.get? b=some o)(n:H b=none):(qV h H).get? b=some o:=
 W.hideAll_get _ e fun hm=>by have q:(H b).isSome=true:=(List.mem_filter.mp hm).2;rw[n]at q;simp at q
theorem Dq{h:Heap}{H:Hp}{b:Addr}{o:Obj}(e:(qV h H).get? b=some o):h.get? b=some o∧H b=none:=by
 have e':h.get? b=some o:=W.of_hideAll (Xn h H) e;refine⟨e',?_⟩
 cases q:H b with
 |none=>rfl
 |some x=>have hm:b∈Xn h H:=List.mem_filter.mpr ⟨List.mem_range.mpr (Heap.lt_size e'),by simp[q]⟩;have z:(qV h H).get? b=none:=W.hideAll_none (Xn h H) hm;rw[z]at e;cases e
structure Mod(K:W.Frag)(mg:Str→Option Value)(base:Heap):Prop where
 Yu:K.In base
 glob:base.Ns mainGlobals mg
 blt:∃mb,base.Ns builtinsNs mb∧∀x:Str,x≠"__name__"→mb x=bootBuiltins x
 nolimit:base.NoLimit
structure Cx where
 prog:Program
 w:World
 K:W.Frag
 mg:Str→Option Value
 base:Heap
 A:Around
 N:List Str
 s₀:Shared
 H₀:Hp
 env:Env
 outer:List Env
 stack:List Env
 ex:List Addr
 fn:Str→Bool
 calm:Bool
 pn:List (Addr×Obj)
 xe:Value→Shared→Prop
noncomputable def frs(l:List Env):List Addr:=l.filterMap (·.frame)
abbrev Cx.fs(X:Cx):List Addr:=frs X.outer
def Zm(sc:Scope)(x:Str):Prop:=sc.names.lookup x=some .local∨sc.names.lookup x=some .cell∨sc.names.lookup x=some .free
def Loc(sc:Scope)(x:Str):Prop:=sc.names.lookup x=some .local∨sc.names.lookup x=some .cell
def LK(env:Env)(h:Heap)(m:Str→Option Value)(x:Str)(u:Value):Prop:=
 (env.kindOf x=some .local∧m x=some u)∨((env.kindOf x=some .cell∨env.kindOf x=some .free)∧∃c,env.cells.lookup x=some c∧h.IsCell c (some u))
structure Cx.Ok(X:Cx):Prop where
 mod:Mod X.K X.mg X.base
 kind:X.env.scope.kind=.function
 glob:X.env.globals=mainGlobals
 blt:X.env.builtins=builtinsNs
 above:X.s₀.heap.objs.size≤X.env.locals
 inj:∀x y c,X.env.cells.lookup x=some c→X.env.cells.lookup y=some c→x=y
 has:∀x,(X.env.kindOf x=some .cell∨X.env.kindOf x=some .free)→∃c,X.env.cells.lookup x=some c
 cab:∀x c,X.fn x=true→X.env.cells.lookup x=some c→X.s₀.heap.objs.size≤c
 hd:X.calm=true→X.A.handled=none
 frames:X.A.frames=some X.stack
 stk:X.stack=X.outer∨(X.stack=X.env::X.outer∧X.env.frame=some X.env.locals)
 exf:∀b∈X.ex,b≠X.env.locals∧∀x c,X.env.cells.lookup x=some c→c≠b
 bs:∀b o,X.base.get? b=some o→X.s₀.heap.get? b=some o∧X.H₀ b=none
 Vb:X.base.objs.size≤X.s₀.heap.objs.size
 TX:∀b o,X.base.get? b=some o→b∉X.ex
 Ux:∀b∈X.ex,b∉X.fs
 QT:X.s₀.heap.FunFrames X.base X.outer
 Wa:∀b∈X.fs,X.H₀ b=none
structure Inv(X:Cx)(pins:List (Addr×Obj))(σ:List (Option V))(H:Hp)(s:Shared):Prop where
 ok:X.Ok
 os:s.os=X.s₀.os
 bare:AllBare s.gens
 base:Un X.fs X.ex X.H₀ H X.s₀.heap s.heap
 loc:∃m,s.heap.Ns X.env.locals m∧∀(i:Nat)(x:Str)(v:V),X.N[i]? =some x→σ[i]? =some (some v)→Zm X.env.scope x→∃u,aX v u∧LK X.env s.heap m x u
 cell:∀x c,X.env.cells.lookup x=some c→∃v,s.heap.IsCell c v
 free:H X.env.locals=none
 Ol:∀x c,X.env.cells.lookup x=some c→H c=none
 pin:∀p∈X.pn++pins,s.heap.get? p.1=some p.2∧H p.1=none∧p.1≠X.env.locals∧p.1∉X.fs∧∀v,p.2.data≠.cell v
 hok:Oc X.prog X.w H s.heap
 len:σ.length=X.N.length
section
variable{X:Cx}{pins:List (Addr×Obj)}{σ:List (Option V)}{H H':Hp}{s:Shared}{h':Heap}
theorem Cx.Ok.Yr(ok:X.Ok){b:Addr}{o:Obj}(e:X.base.get? b=some o):b∉X.fs:=fun hb=>by have:=(ok.QT.mem hb).1;rw[e]at this;cases this
theorem Inv.bs(I:Inv X pins σ H s):∀b o,X.base.get? b=some o→s.heap.get? b=some o∧H b=none:=fun b o e=>⟨I.base.keep b o (I.ok.bs b o e).1 (I.ok.bs b o e).2 (I.ok.Yr e) (I.ok.TX b o e),I.base.free b o (I.ok.bs b o e).1 (I.ok.bs b o e).2 (I.ok.TX b o e)⟩
theorem Inv.bk(I:Inv X pins σ H s):∀b o,X.base.get? b=some o→s.heap.get? b=some o:=fun b o e=>(I.bs b o e).1
theorem Inv.mod(I:Inv X pins σ H s):Mod X.K X.mg X.base:=I.ok.mod
theorem Inv.Qq(I:Inv X pins σ H s):X.K.In s.heap:=I.ok.mod.Yu.keeps I.bk
theorem Inv.lt(I:Inv X pins σ H s):X.env.locals<s.heap.objs.size:=let⟨_,hn,_⟩:=I.loc;hn.lt
theorem Inv.sz(I:Inv X pins σ H s):X.s₀.heap.objs.size≤s.heap.objs.size:=Nat.le_trans I.ok.above (Nat.le_of_lt I.lt)
theorem Inv.Wv(I:Inv X pins σ H s){a:Addr}(h:s.heap.objs.size≤a):a∉X.fs:=fun hb=>by obtain⟨_,o,ho,_⟩:=I.ok.QT.mem hb;exact absurd (Nat.lt_of_lt_of_le (Heap.lt_size ho) (Nat.le_trans I.sz h)) (Nat.lt_irrefl _)
theorem Inv.VJ(I:Inv X pins σ H s):∀x c,X.env.cells.lookup x=some c→c≠X.env.locals:=fun x c e z=>by obtain⟨v,o,ho,hd⟩:=I.cell x c e;obtain⟨m,⟨o',es,ep,RZ,hd',_⟩,_⟩:=I.loc;rw[z,RZ]at ho;cases ho;rw[hd']at hd;cases hd
theorem Inv.QT(I:Inv X pins σ H s):s.heap.FunFrames X.base X.outer:=by
 have all:∀(l:List Env),(∀b∈frs l,b∈X.fs)→X.s₀.heap.FunFrames X.base l→s.heap.FunFrames X.base l:=by
  intro l
  induction l with
  |nil=>intro _ _;trivial
  |cons env r ih=>intro hs hl;obtain⟨hk,⟨L,o,hf,hn,ho,hd⟩,hr⟩:=hl;have hL:L∈X.fs:=hs L (by unfold frs;rw[List.filterMap_cons,hf];exact List.mem_cons_self);obtain⟨sl,e⟩:=I.base.slot L o ho (I.ok.Wa L hL) hL fun z=>I.ok.Ux L z hL;exact⟨hk,⟨L,_,hf,hn,e,hd⟩,ih (fun b hb=>hs b (by unfold frs;rw[List.filterMap_cons,hf];exact List.mem_cons_of_mem _ hb)) hr⟩
 exact all X.outer (fun _ hb=>hb) I.ok.QT
theorem Inv.stack(I:Inv X pins σ H s):s.heap.FunFrames X.base X.stack:=by
 rcases I.ok.stk with e|⟨e,hf⟩
 ·rw[e];exact I.QT
 ·rw[e];obtain⟨m,hn,_⟩:=I.loc;refine .cons (by rw[I.ok.kind];decide) hf hn ?_ I.QT;exact Heap.get?_none_of_le (Nat.le_trans I.ok.Vb I.ok.above)
theorem Inv.QC(I:Inv X pins σ H s):∀b∈frs X.stack,b∈X.env.locals::X.fs:=fun b hb=>by
 rcases I.ok.stk with e|⟨e,hf⟩
 ·rw[e]at hb;exact List.mem_cons_of_mem _ hb
 ·rw[e]at hb;unfold frs at hb;rw[List.filterMap_cons,hf]at hb;exact hb
theorem Inv.S7(I:Inv X pins σ H s):∀b∈frs X.stack,H b=none:=fun b hb=>by
 rcases List.mem_cons.mp (I.QC b hb)with e|hb
 ·rw[e];exact I.free
 ·obtain⟨_,o,ho,_⟩:=I.ok.QT.mem hb;exact I.base.free b o ho (I.ok.Wa b hb) fun z=>I.ok.Ux b z hb
theorem Inv.step{g':Array GenState}{t':Nat}{d':Drawn}{ch:List Addr}(I:Inv X pins σ H s)
  (Tr:∀b∈ch,(b∈X.ex∨X.s₀.heap.objs.size≤b)∧b≠X.env.locals∧(∀x c,X.env.cells.lookup x=some c→c≠b)∧∀p∈X.pn++pins,p.1≠b)
  (keep:∀b o,b≠X.env.locals→b∉X.fs→b∉ch→s.heap.get? b=some o→H b=none→h'.get? b=some o)
  (slot:∀b o,b≠X.env.locals→b∈X.fs→b∉ch→s.heap.get? b=some o→H b=none→∃sl,h'.get? b=some { o with slots:=sl }) (free:∀b o,b∉ch→s.heap.get? b=some o→H b=none→H' b=none)
  (there:∀b o,b∉ch→s.heap.get? b=some o→∃o',h'.get? b=some o')
  (tups:∀b xs,H b=some (.tup xs)→H' b=some (.tup xs)) (Ms:∀b o u,H b=some (.Py o u)→H' b=some (.Py o u)) (Rb:∀b ps,H b=some (.UW ps)→∃more,H' b=some (.UW (ps++more)))
  (ns:∀m,s.heap.Ns X.env.locals m→h'.Ns X.env.locals m) (hok:Oc X.prog X.w H' h') (hg:AllBare g'):
  Inv X pins σ H' { s with heap:=h',gens:=g',drawn:=d',toks:=t' }:=by
 have Z5:∀b o,X.s₀.heap.get? b=some o→b≠X.env.locals:=fun b o e=>Nat.ne_of_lt (Nat.lt_of_lt_of_le (Heap.lt_size e) I.ok.above)
 have Xw:∀b o,X.s₀.heap.get? b=some o→b∉X.ex→b∉ch:=fun b o e hx hb=>by
  rcases(Tr b hb).1 with z|z
  ·exact hx z
  ·exact absurd (Nat.lt_of_lt_of_le (Heap.lt_size e) z) (Nat.lt_irrefl _)
 have cellK:∀x c,X.env.cells.lookup x=some c→∀v,s.heap.IsCell c v→h'.IsCell c v:=fun x c e v ⟨o,ho,hd⟩=>by
  have Wy:c∉ch:=fun z=>(Tr c z).2.2.1 x c e rfl
  by_cases hc:c∈X.fs
  ·obtain⟨sl,q⟩:=slot c o (I.VJ x c e) hc Wy ho (I.Ol x c e);exact⟨_,q,hd⟩
  ·exact⟨o,keep c o (I.VJ x c e) hc Wy ho (I.Ol x c e),hd⟩
 refine⟨I.ok,I.os,hg,⟨fun b o e n hb hx=>?_,fun b o e n hb hx=>?_,fun b o e n hx=>?_,fun b o e hx=>?_,fun b xs e=>tups b xs (I.base.tups b xs e),fun b o xs e=>Ms b o xs (I.base.Ms b o xs e),fun b ps e=>?_⟩,?_,fun x c e=>?_,?_,fun x c e=>?_,fun p hp=>?_,hok,I.len⟩
 ·exact keep b o (Z5 b o e) hb (Xw b o e hx) (I.base.keep b o e n hb hx) (I.base.free b o e n hx)
 ·obtain⟨sl,e1⟩:=I.base.slot b o e n hb hx;obtain⟨ZR,e2⟩:=slot b _ (Z5 b o e) hb (Xw b o e hx) e1 (I.base.free b o e n hx);exact⟨ZR,e2⟩
 ·obtain⟨o',e1⟩:=I.base.there b o e hx;exact free b o' (Xw b o e hx) e1 (I.base.free b o e n hx)
 ·obtain⟨o',e1⟩:=I.base.there b o e hx;exact there b o' (Xw b o e hx) e1
 ·obtain⟨m1,e1⟩:=I.base.Rb b ps e;obtain⟨m2,e2⟩:=Rb b _ e1;exact⟨m1++m2,by rw[e2,Array.append_assoc]⟩
 ·obtain⟨m,hn,hl⟩:=I.loc;refine⟨m,ns m hn,fun i x v e1 e2 e3=>?_⟩;obtain⟨u,r,l⟩:=hl i x v e1 e2 e3;refine⟨u,r,?_⟩;rcases l with l|⟨k,c,e,z⟩
  ·exact .inl l
  ·exact .inr ⟨k,c,e,cellK x c e _ z⟩
 ·obtain⟨v,z⟩:=I.cell x c e;exact⟨v,cellK x c e v z⟩
 ·obtain⟨m,⟨o,_,_,ho,_⟩,_⟩:=I.loc;exact free _ o (fun z=>(Tr _ z).2.1 rfl) ho I.free
 ·obtain⟨v,o,ho,hd⟩:=I.cell x c e;exact free c o (fun z=>(Tr c z).2.2.1 x c e rfl) ho (I.Ol x c e)
 ·obtain⟨e,n,ne,nf,d⟩:=I.pin p hp;have Wy:p.1∉ch:=fun z=>(Tr p.1 z).2.2.2 p hp rfl;exact⟨keep p.1 p.2 ne nf Wy e n,free p.1 p.2 Wy e n,ne,nf,d⟩
theorem Inv.un{t':Nat}(I:Inv X pins σ H s)(u:Un X.fs [] H H' s.heap h')(hok:Oc X.prog X.w H' h'):Inv X pins σ H' { s with heap:=h',toks:=t' }:=by
 obtain⟨m,⟨o,es,ep,ho,r⟩,_⟩:=id I.loc;obtain⟨sl,hL⟩:=u.any ho I.free (by simp)
 exact I.step (g':=s.gens) (d':=s.drawn) (ch:=[]) (fun _ z=>nomatch z) (fun b o _ hb _ e n=>u.keep b o e n hb (by simp)) (fun b o _ hb _ e n=>u.slot b o e n hb (by simp)) (fun b o _ e n=>u.free b o e n (by simp)) (fun b o _ e=>u.there b o e (by simp)) u.tups u.Ms u.Rb (fun m' hm=>by obtain⟨o',XQ,XR,RZ,r'⟩:=hm;rw[ho]at RZ;cases RZ;exact⟨_,XQ,XR,hL,r'⟩) hok I.bare
theorem Inv.call{g':Array GenState}{t':Nat}{d':Drawn}{ch:List Addr}(I:Inv X pins σ H s)(u:Un (frs X.stack) ch H H' s.heap h')(hok:Oc X.prog X.w H' h')(hg:AllBare g')
  (Tr:∀b∈ch,(b∈X.ex∨X.s₀.heap.objs.size≤b)∧b≠X.env.locals∧(∀x c,X.env.cells.lookup x=some c→c≠b)∧∀p∈X.pn++pins,p.1≠b):
  Inv X pins σ H' { s with heap:=h',gens:=g',drawn:=d',toks:=t' }:=by
 obtain⟨m,⟨o,es,ep,ho,r⟩,_⟩:=id I.loc;obtain⟨sl,hL⟩:=u.any ho I.free fun z=>(Tr _ z).2.1 rfl
 exact I.step (ch:=ch) Tr (fun b o hL hb hc e n=>u.keep b o e n (fun z=>(List.mem_cons.mp (I.QC b z)).elim hL hb) hc) (fun b o _ _ hc e n=>u.any e n hc) (fun b o hc e n=>u.free b o e n hc) (fun b o hc e=>u.there b o e hc) u.tups u.Ms u.Rb (fun m' hm=>by obtain⟨o',XQ,XR,RZ,r'⟩:=hm;rw[ho]at RZ;cases RZ;exact⟨_,XQ,XR,hL,r'⟩) hok hg
theorem Inv.turned{t':Nat}{it:Addr}(I:Inv X pins σ H s)(k:∀b o,b≠it→s.heap.get? b=some o→h'.get? b=some o)(hn:H it=none)(hL:it≠X.env.locals)
  (h1:it∈X.ex∨X.s₀.heap.objs.size≤it) (h2:∀x c,X.env.cells.lookup x=some c→c≠it) (h3:∀p∈X.pn++pins,p.1≠it):Inv X pins σ H { s with heap:=h',toks:=t' }:=by
 have Z4:∀b u,H b=some u→b≠it:=fun b u e z=>by rw[z,hn]at e;cases e
 refine I.step (g':=s.gens) (d':=s.drawn) (ch:=[it]) (fun b hb=>?_) (fun b o _ _ hc e _=>k b o (fun z=>hc (by simp[z])) e) (fun b o _ _ hc e _=>⟨o.slots,k b o (fun z=>hc (by simp[z])) e⟩) (fun _ _ _ _ n=>n)
  (fun b o hc e=>⟨o,k b o (fun z=>hc (by simp[z])) e⟩) (fun _ _ e=>e) (fun _ _ _ e=>e) (fun b ps e=>⟨#[],by rw[e];simp⟩) (fun m hm=>?_) (fun b u e=>?_) I.bare
 ·have e:b=it:=by simpa using hb
  subst e;exact⟨h1,hL,h2,h3⟩
 ·obtain⟨o,es,ep,ho,r⟩:=hm;exact⟨o,es,ep,k _ o (Ne.symm hL) ho,r⟩
 ·refine(I.hok b u e).stay (fun c v hc q=>k c v ?_ q) (fun _ q=>q) fun _ _ q=>q;rcases hc with z|z
  ·rw[z];exact Z4 b u e
  ·exact Z4 c _ z
theorem Inv.tok(I:Inv X pins σ H s)(t:Nat):Inv X pins σ H { s with toks:=t }:=I.un (h':=s.heap) (t':=t) Un.refl I.hok
theorem Inv.kept{t':Nat}(I:Inv X pins σ H s)(k:∀b u,s.heap.get? b=some u→h'.get? b=some u):Inv X pins σ H { s with heap:=h',toks:=t' }:=I.un (Un.kept k) (I.hok.kept k)
theorem Inv.laid{a:Addr}{o:HO}{t':Nat}(I:Inv X pins σ H s)(k:∀b u,s.heap.get? b=some u→h'.get? b=some u)(hp:s.heap.objs.size≤a)(new:bN X.prog X.w (upd H a o) h' a o):
  Inv X pins σ (upd H a o) { s with heap:=h',toks:=t' }:=I.un (Un.laid k hp (I.hok.fresh hp)) (I.hok.laid k hp new)
theorem Inv.write{x e:Addr}{o:HO}{t':Nat}(I:Inv X pins σ H s)(mu:Xg (H x))(he:e=x∨H e=some (.own x))(k:∀b u,b≠e→s.heap.get? b=some u→h'.get? b=some u)(V8:∃u,h'.get? e=some u)
  (new:bN X.prog X.w (upd H x o) h' x o):Inv X pins σ (upd H x o) { s with heap:=h',toks:=t' }:=I.un (Un.write mu he k V8) (I.hok.write mu he k V8 new)
theorem Inv.weak{σ':List (Option V)}(I:Inv X pins σ H s)(hl:σ'.length=σ.length)(w:∀(i:Nat) v,σ'[i]? =some (some v)→σ[i]? =some (some v)):Inv X pins σ' H s:=
 ⟨I.ok,I.os,I.bare,I.base,let⟨m,hn,WX⟩:=I.loc;⟨m,hn,fun i x v e1 e2 e3=>WX i x v e1 (w i v e2) e3⟩,I.cell,I.free,I.Ol,I.pin,I.hok,hl.trans I.len⟩
theorem Inv.Mh{K3:List (Addr×Obj)}(I:Inv X pins σ H s)(h:∀p∈K3,s.heap.get? p.1=some p.2∧H p.1=none∧p.1≠X.env.locals∧p.1∉X.fs∧∀v,p.2.data≠.cell v):Inv X K3 σ H s:=
 ⟨I.ok,I.os,I.bare,I.base,I.loc,I.cell,I.free,I.Ol,fun p hp=>(List.mem_append.mp hp).elim (fun z=>I.pin p (List.mem_append_left _ z)) (h p),I.hok,I.len⟩
theorem sQ{N:List Str}(hN:N.Nodup){i j:Nat}{x:Str}(a:N[i]? =some x)(b:N[j]? =some x):i=j:=by obtain⟨h1,e1⟩:=List.getElem?_eq_some_iff.mp a;obtain⟨h2,e2⟩:=List.getElem?_eq_some_iff.mp b;exact(List.getElem_inj hN).mp (e1.trans e2.symm)
theorem xL{M:Model}{A:Around}{E:Value→Shared→Prop}{i:Nat}{x:Str}{v:V}{u:Value}{Q:Unit→Shared→Prop}(I:Inv X pins σ H s)(hN:X.N.Nodup)(hi:X.N[i]? =some x)(hx:Loc X.env.scope x)(r:aX v u)
  (h:∀s',Inv X pins (σ.set i (some v)) H s'→(∃a,Heap.SameBut a s.heap s'.heap∧(a=X.env.locals∨X.env.cells.lookup x=some a))→Q () s') (hf:X.fn x=true∨X.env.scope.names.lookup x=some .local:=by first|exact .inl rfl|exact .inr rfl|assumption):wpAny M A (storeName X.env x u) Q E s:=by
 obtain⟨m,hn,hl⟩:=id I.loc;have YZ:(X.env.scope.kind==.class||(X.env.scope.kind==.module&&X.env.locals !=X.env.globals))=false:=by rw[I.ok.kind];rfl
 have hiσ:i<σ.length:=by rw[I.len];exact(List.getElem?_eq_some_iff.mp hi).1
 have VJ:=I.VJ
 have tracked:∀{a:Addr}{h':Heap},(∃o,s.heap.get? a=some o∧H a=none)→Heap.SameBut a s.heap h'→Oc X.prog X.w H h':=fun{a h'} ha hs b ob e=>by
  obtain⟨_,_,U9⟩:=ha;refine(I.hok b ob e).stay (fun c w' hc q=>(hs.2 c ?_).trans q) (fun _ q=>q) fun _ _ q=>q
  rintro rfl
  rcases hc with rfl|hc
  ·rw[U9]at e;cases e
  ·rw[U9]at hc;cases hc
 rcases hx with hk|hk
 ·refine wpAny_storeName_local hk hn (fun h' hn' hs=>?_) YZ;obtain⟨oL,_,_,hoL,_⟩:=id hn;refine h _ ⟨I.ok,I.os,I.bare,⟨fun b o e n hb hx=>?_,fun b o e n hb hx=>?_,I.base.free,fun b o e hx=>?_,I.base.tups,I.base.Ms,I.base.Rb⟩,⟨_,hn',fun j y v' e1 e2 e3=>?_⟩,fun y c e=>?_,I.free,I.Ol,fun p hp=>?_,tracked ⟨oL,hoL,I.free⟩ hs,by simpa using I.len⟩ ⟨_,hs,.inl rfl⟩
  ·exact(hs.2 b (Nat.ne_of_lt (Nat.lt_of_lt_of_le (Heap.lt_size e) I.ok.above))).trans (I.base.keep b o e n hb hx)
  ·obtain⟨sl,e1⟩:=I.base.slot b o e n hb hx;exact⟨sl,(hs.2 b (Nat.ne_of_lt (Nat.lt_of_lt_of_le (Heap.lt_size e) I.ok.above))).trans e1⟩
  ·obtain⟨o',e1⟩:=I.base.there b o e hx;exact⟨o',(hs.2 b (Nat.ne_of_lt (Nat.lt_of_lt_of_le (Heap.lt_size e) I.ok.above))).trans e1⟩
  ·by_cases hj:j=i
   ·subst hj;rw[hi]at e1;cases e1;rw[List.getElem?_set_self hiσ]at e2
    cases e2
    exact⟨u,r,.inl ⟨hk,by simp⟩⟩
   ·rw[List.getElem?_set_ne (Ne.symm hj)]at e2;obtain⟨u',r',q⟩:=hl j y v' e1 e2 e3;refine⟨u',r',?_⟩;rcases q with⟨k,e⟩|⟨k,c,e,z⟩
    ·refine .inl ⟨k,?_⟩;have:y≠x:=fun e=>hj (sQ hN e1 (e▸hi));simp[this,e]
    ·exact .inr ⟨k,c,e,z.sameBut hs (VJ y c e)⟩
  ·obtain⟨w',z⟩:=I.cell y c e;exact⟨w',z.sameBut hs (VJ y c e)⟩
  ·obtain⟨e,n,ne,nf,d⟩:=I.pin p hp;exact⟨(hs.2 p.1 ne).trans e,n,ne,nf,d⟩
 ·have R7:X.fn x=true:=by
   rcases hf with z|z
   ·exact z
   ·rw[z]at hk;cases hk
  obtain⟨c,hc⟩:=I.ok.has x (.inl hk);obtain⟨w',z⟩:=I.cell x c hc;refine wpAny_storeName_cell I.ok.kind hk hc z (fun h' Vv hs=>?_);obtain⟨oc,hoc,YF⟩:=id z;refine h { s with heap:=h' } ⟨I.ok,I.os,I.bare,⟨fun b o e n hb hx=>?_,fun b o e n hb hx=>?_,I.base.free,fun b o e hx=>?_,I.base.tups,I.base.Ms,I.base.Rb⟩,⟨m,hn.sameBut hs (Ne.symm (VJ x c hc)),fun j y v' e1 e2 e3=>?_⟩,fun y c' e=>?_,I.free,I.Ol,fun p hp=>?_,tracked ⟨oc,hoc,I.Ol x c hc⟩ hs,by simpa using I.len⟩ ⟨c,hs,.inr hc⟩
  ·exact(hs.2 b (Nat.ne_of_lt (Nat.lt_of_lt_of_le (Heap.lt_size e) (I.ok.cab x c R7 hc)))).trans (I.base.keep b o e n hb hx)
  ·obtain⟨sl,e1⟩:=I.base.slot b o e n hb hx;exact⟨sl,(hs.2 b (Nat.ne_of_lt (Nat.lt_of_lt_of_le (Heap.lt_size e) (I.ok.cab x c R7 hc)))).trans e1⟩
  ·obtain⟨o',e1⟩:=I.base.there b o e hx;exact⟨o',(hs.2 b (Nat.ne_of_lt (Nat.lt_of_lt_of_le (Heap.lt_size e) (I.ok.cab x c R7 hc)))).trans e1⟩
  ·by_cases hj:j=i
   ·subst hj;rw[hi]at e1;cases e1;rw[List.getElem?_set_self hiσ]at e2
    cases e2
    exact⟨u,r,.inr ⟨.inl hk,c,hc,Vv⟩⟩
   ·rw[List.getElem?_set_ne (Ne.symm hj)]at e2;obtain⟨u',r',q⟩:=hl j y v' e1 e2 e3;refine⟨u',r',?_⟩;rcases q with q|⟨k,c',e,z'⟩
    ·exact .inl q
    ·refine .inr ⟨k,c',e,z'.sameBut hs ?_⟩
     rintro rfl
     exact hj (sQ hN e1 (I.ok.inj _ _ _ e hc▸hi))
  ·by_cases hcc:c'=c
   ·subst hcc;exact⟨_,Vv⟩
   ·obtain⟨w2,z2⟩:=I.cell y c' e;exact⟨w2,z2.sameBut hs hcc⟩
  ·obtain⟨e,n,ne,nf,d⟩:=I.pin p hp;refine⟨(hs.2 p.1 ?_).trans e,n,ne,nf,d⟩;intro q;rw[q,hoc]at e;have q':oc=p.2:=Option.some.inj e;exact d w' (by rw[← q'];exact YF)
theorem sr{M:Model}{A:Around}{E:Value→Shared→Prop}{i:Nat}{x:Str}{v:V}{u:Value}{Q:Unit→Shared→Prop}(I:Inv X pins σ H s)(hN:X.N.Nodup)(hi:X.N[i]? =some x)(hx:Loc X.env.scope x)(r:aX v u)
  (h:∀s',Inv X pins (σ.set i (some v)) H s'→Q () s') (hf:X.fn x=true∨X.env.scope.names.lookup x=some .local:=by first|exact .inl rfl|exact .inr rfl|assumption):wpAny M A (storeName X.env x u) Q E s:=
 xL I hN hi hx r (fun s' I' _=>h s' I') hf
theorem Inv.call'{s':Shared}{ch:List Addr}(I:Inv X pins σ H s)(ho:s'.os=s.os)(u:Un (frs X.stack) ch H H' s.heap s'.heap)(hok:Oc X.prog X.w H' s'.heap)(hg:AllBare s'.gens)
  (Tr:∀b∈ch,(b∈X.ex∨X.s₀.heap.objs.size≤b)∧b≠X.env.locals∧(∀x c,X.env.cells.lookup x=some c→c≠b)∧∀p∈X.pn++pins,p.1≠b):Inv X pins σ H' s':=by
 obtain⟨h',g',d',t',o'⟩:=s';have e:o'=s.os:=ho;subst e;exact I.call (g':=g') (t':=t') (d':=d') u hok hg Tr
end
abbrev XK:=Value→Option Addr→Hp→Prop
abbrev St:=List (Option V)
abbrev VK:=V→Hp→Prop
abbrev TE:=St→Hp→VK→Prop
abbrev TT:=St→Hp→(Bool→Hp→Prop)→Prop
abbrev TA:=St→Hp→(List V→Hp→Prop)→Prop
structure pd where
 nx:St→Hp→Prop
 rt:VK
 bk:St→Hp→Prop:=fun _ _=>False
 ct:St→Hp→Prop:=fun _ _=>False
abbrev TS:=pd→St→Hp→Prop
def EP(X:Cx)(pins:List (Addr×Obj))(σ:St)(Q:VK)(u:Value)(s':Shared):Prop:=∃v H',Inv X pins σ H' s'∧aX v u∧Q v H'
def TP(X:Cx)(pins:List (Addr×Obj))(σ:St)(Q:Bool→Hp→Prop)(b:Bool)(s':Shared):Prop:=∃H',Inv X pins σ H' s'∧Q b H'
def AP(X:Cx)(pins:List (Addr×Obj))(σ:St)(Q:List V→Hp→Prop)(us:List Value)(s':Shared):Prop:=∃vs H',Inv X pins σ H' s'∧aR vs us∧Q vs H'
def SP(X:Cx)(pins:List (Addr×Obj))(D:pd)(f:Flow)(s':Shared):Prop:=
 match f with
 |.next=>∃ σ' H',Inv X pins σ' H' s'∧D.nx σ' H'
 |.brk=>∃ σ' H',Inv X pins σ' H' s'∧D.bk σ' H'
 |.cont=>∃ σ' H',Inv X pins σ' H' s'∧D.ct σ' H'
 |.ret u=>∃v σ' H',Inv X pins σ' H' s'∧aX v u∧D.rt v H'
def PE(X:Cx)(e:Expr)(t:TE):Prop:=
 ∀(pins:List (Addr×Obj))(s:Shared)(σ:St)(H:Hp)(Q:VK),Inv X pins σ H s→t σ H Q→wpAny (model X.prog X.w) X.A (eval e X.env) (EP X pins σ Q) X.xe s
def PT(X:Cx)(e:Expr)(t:TT):Prop:=
 ∀(pins:List (Addr×Obj))(s:Shared)(σ:St)(H:Hp)(Q:Bool→Hp→Prop),Inv X pins σ H s→t σ H Q→wpAny (model X.prog X.w) X.A (isTrue e X.env (eval e X.env)) (TP X pins σ Q) X.xe s
def PW(X:Cx)(e:Expr)(t:TT):Prop:=
 ∀(whole:Sem Value)(pins:List (Addr×Obj))(s:Shared)(σ:St)(H:Hp)(Q:Bool→Hp→Prop),Inv X pins σ H s→t σ H Q→wpAny (model X.prog X.w) X.A (isTrue e X.env whole) (TP X pins σ Q) X.xe s
theorem PW.pt{X:Cx}{e:Expr}{t:TT}(h:PW X e t):PT X e t:=h _
def PA(X:Cx)(es:List Expr)(t:TA):Prop:=
 ∀(pos:Pos)(pins:List (Addr×Obj))(s:Shared)(σ:St)(H:Hp)(Q:List V→Hp→Prop),Inv X pins σ H s→t σ H Q→wpAny (model X.prog X.w) X.A (spliced (backTo pos (starEach es X.env))) (AP X pins σ Q) X.xe s
def PS(X:Cx)(st:Stmt)(t:TS):Prop:=
 ∀(pins:List (Addr×Obj))(s:Shared)(σ:St)(H:Hp)(D:pd),Inv X pins σ H s→t D σ H→wpAny (model X.prog X.w) X.A (exec st X.env) (SP X pins D) X.xe s
def RK(X:Cx)(st:List Stmt)(t:TS):Prop:=
 ∀(pins:List (Addr×Obj))(s:Shared)(σ:St)(H:Hp)(D:pd),Inv X pins σ H s→t D σ H→wpAny (model X.prog X.w) X.A (execs st X.env) (SP X pins D) X.xe s
theorem B_{α:Type}{t:Sem α}{Q Q':α→Shared→Prop}{M:Model}{A:Around}{E:Value→Shared→Prop}{s:Shared}(h:wpAny M A t Q E s)(hQ:∀a s,Q a s→Q' a s):wpAny M A t Q' E s:=wpAny_mono h hQ fun _ _ x=>x
section
variable{X:Cx}
noncomputable def Ku(i:Nat):TE:=fun σ H Q=>∃v,σ[i]? =some (some v)∧Q v H
noncomputable def tC(v:V):TE:=fun _ H Q=>Q v H
abbrev sE0(X:Cx)(e:Expr)(es:List Expr):Prop:=starEach (e::es) X.env=(false,eval e X.env)::starEach es X.env
abbrev sP0(X:Cx)(es:List Expr)(pos:Pos):Prop:=(backTo pos (starEach es X.env)).any (·.1)=false
abbrev nD0(x:Str):Prop:=(x==("__debug__":Str))=false
theorem Gs{i:Nat}{x:Str}{pos:Pos}(hN:X.N[i]? =some x)(hv:Zm X.env.scope x)(hd:nD0 x:=by decide)(T3:(x==("__classdict__":Str))=false:=by decide):PE X (.Name x pos) (Ku i):=by
 intro pins s σ H Q I h;obtain⟨v,e,h⟩:=h;obtain⟨m,hn,hl⟩:=I.loc;obtain⟨u,r,l⟩:=hl i x v hN e hv;have fin:EP X pins σ Q u s:=⟨v,H,I,r,h⟩
 rcases l with⟨hk,hm⟩|⟨hk,c,hc,hcell⟩
 ·exact wpAny_Name (wpAny_loadName_local I.ok.kind hk hn hm fin) hd
 ·rcases hk with hk|hk
  ·exact wpAny_Name (wpAny_loadName_cell I.ok.kind hk hc hcell fin) hd
  ·exact wpAny_Name (wpAny_loadName_free I.ok.kind hk hc hcell fin T3) hd
theorem GA{i j pos}:PE X (.Constant (.int i) j pos) (tC (.int i)):=fun _ _ _ H _ I h=>wpAny_Constant_int ⟨.int i,H,I.tok _,⟨_,rfl⟩,h⟩
theorem IU{b j pos}:PE X (.Constant (.bool b) j pos) (tC (.bl b)):=fun _ _ _ H _ I h=>Constant_bool ⟨.bl b,H,I,rfl,h⟩
theorem Gz{j pos}:PE X (.Constant .none j pos) (tC .non):=fun _ _ _ H _ I h=>Constant_none ⟨.non,H,I,rfl,h⟩
theorem Gv{x j pos}:PE X (.Constant (.str x) j pos) (tC (.str x)):=fun _ _ _ H _ I h=>Calls.Constant_str ⟨.str x,H,I.tok _,⟨_,rfl⟩,h⟩
def Gl(X:Cx)(x:Str):Prop:=X.env.kindOf x=some .globalImplicit
theorem mW{E:Value→Shared→Prop}{pins:List (Addr×Obj)}{s:Shared}{σ:St}{H:Hp}{x:Str}{u:Value}{pos:Pos}{Q:Value→Shared→Prop}(I:Inv X pins σ H s)(hg:Gl X x)(hm:X.mg x=some u)(h:Q u s)
  (hd:nD0 x:=by decide):wpAny (model X.prog X.w) X.A (eval (.Name x pos) X.env) Q E s:=
 Calls.Name_function_global I.ok.kind hg (Calls.loadGlobal_global (by rw[I.ok.glob];exact I.mod.glob.keeps I.bk) hm h) hd
theorem il{E:Value→Shared→Prop}{pins:List (Addr×Obj)}{s:Shared}{σ:St}{H:Hp}{x:Str}{u:Value}{pos:Pos}{Q:Value→Shared→Prop}(I:Inv X pins σ H s)(hg:Gl X x)(hm:X.mg x=none)(hv:bootBuiltins x=some u)(h:Q u s)
  (hn:x≠"__name__":=by decide) (hd:nD0 x:=by decide):wpAny (model X.prog X.w) X.A (eval (.Name x pos) X.env) Q E s:=by
 obtain⟨mb,h1,h2⟩:=I.mod.blt;exact Calls.Name_function_global I.ok.kind hg (Calls.loadGlobal_builtin (by rw[I.ok.glob];exact I.mod.glob.keeps I.bk) hm (by rw[I.ok.blt];exact h1.keeps I.bk) ((h2 x hn).trans hv) h) hd
theorem wx{x:Str}{v:V}{u:Value}{pos:Pos}(hg:Gl X x)(hm:X.mg x=some u)(r:aX v u)(hd:nD0 x:=by decide):PE X (.Name x pos) (tC v):=
 fun _ _ _ H _ I h=>mW I hg hm ⟨v,H,I,r,h⟩ hd
theorem Dh{x:Str}{v:V}{u:Value}{pos:Pos}(hg:Gl X x)(hm:X.mg x=none)(hv:bootBuiltins x=some u)(r:aX v u)(hn:x≠"__name__":=by decide)(hd:nD0 x:=by decide):PE X (.Name x pos) (tC v):=
 fun _ _ _ H _ I h=>il I hg hm hv ⟨v,H,I,r,h⟩ hn hd
variable{a b:Expr}{ta tb:TE}{pos:Pos}
variable{tA Xo:TT}{rest:List Expr}
noncomputable def KF(t u:TT):TT:=fun σ H Q=>t σ H fun c H1=>if c=true then u σ H1 Q else Q false H1
noncomputable def tOr(t u:TT):TT:=fun σ H Q=>t σ H fun c H1=>if c=true then Q true H1 else u σ H1 Q
noncomputable def Kz(t:TT):TT:=fun σ H Q=>t σ H fun c H1=>Q (!c) H1
theorem CK(ha:PT X a tA):PW X (.BoolOp .And [a] pos) tA:=by
 intro wh pins s σ H Q I h;refine isTrue_and (B_ (ha pins s σ H Q I h) fun c s1 e=>?_)
 cases c with
 |true=>exact isTrue_and_nil e
 |false=>exact e
theorem Gb(ha:PT X a tA):PW X (.BoolOp .Or [a] pos) tA:=by
 intro wh pins s σ H Q I h;refine isTrue_or (B_ (ha pins s σ H Q I h) fun c s1 e=>?_)
 cases c with
 |false=>exact isTrue_or_nil e
 |true=>exact e
theorem Gc(ha:PT X a tA)(hb:PW X (.BoolOp .And (b::rest) pos) Xo):PW X (.BoolOp .And (a::b::rest) pos) (KF tA Xo):=by
 intro wh pins s σ H Q I h;refine isTrue_and (B_ (ha pins s σ H _ I h) ?_);rintro c s1 ⟨H1,I1,q1⟩
 cases c with
 |true=>exact hb wh pins s1 σ H1 Q I1 q1
 |false=>exact⟨H1,I1,q1⟩
theorem IL(ha:PT X a tA)(hb:PW X (.BoolOp .Or (b::rest) pos) Xo):PW X (.BoolOp .Or (a::b::rest) pos) (tOr tA Xo):=by
 intro wh pins s σ H Q I h;refine isTrue_or (B_ (ha pins s σ H _ I h) ?_);rintro c s1 ⟨H1,I1,q1⟩
 cases c with
 |true=>exact⟨H1,I1,q1⟩
 |false=>exact hb wh pins s1 σ H1 Q I1 q1
theorem Ge(ha:PT X a tA):PT X (.UnaryOp .Not a pos) (Kz tA):=by intro pins s σ H Q I h;exact isTrue_not (ha pins s σ H (fun c H1=>Q (!c) H1) I h)
noncomputable def Ii(ta tb:TE):TE:=fun σ H Q=>ta σ H fun x H1=>∃c,x=.bl c∧if c=true then tb σ H1 Q else Q (.bl false) H1
noncomputable def Ky(ta tb:TE):TE:=fun σ H Q=>ta σ H fun x H1=>∃c,x=.bl c∧if c=true then Q (.bl true) H1 else tb σ H1 Q
noncomputable def HY(ta:TE):TE:=fun σ H Q=>ta σ H fun x H1=>∃c,x=.bl c∧Q (.bl (!c)) H1
theorem Gw{op}{t:TE}(h:PE X a t):PE X (.BoolOp op [a] pos) t:=fun pins s σ H Q I hw=>BoolOp_one (h pins s σ H Q I hw)
theorem GC(ha:PE X a ta)(hb:PE X (.BoolOp .And (b::rest) pos) tb):PE X (.BoolOp .And (a::b::rest) pos) (Ii ta tb):=by
 intro pins s σ H Q I h;refine BoolOp_and (B_ (ha pins s σ H _ I h) ?_);rintro v s1 ⟨x,H1,I1,r1,q1⟩;obtain⟨c,rfl,q1⟩:=q1
 cases r1
 refine wpAny_truthy_bool ?_
 cases c with
 |true=>exact hb pins s1 σ H1 Q I1 q1
 |false=>exact⟨.bl false,H1,I1,rfl,q1⟩
theorem IQ(ha:PE X a ta)(hb:PE X (.BoolOp .Or (b::rest) pos) tb):PE X (.BoolOp .Or (a::b::rest) pos) (Ky ta tb):=by
 intro pins s σ H Q I h;refine BoolOp_or (B_ (ha pins s σ H _ I h) ?_);rintro v s1 ⟨x,H1,I1,r1,q1⟩;obtain⟨c,rfl,q1⟩:=q1
 cases r1
 refine wpAny_truthy_bool ?_
 cases c with
 |false=>exact hb pins s1 σ H1 Q I1 q1
 |true=>exact⟨.bl true,H1,I1,rfl,q1⟩
theorem Gy(ha:PE X a ta):PE X (.UnaryOp .Not a pos) (HY ta):=by
 intro pins s σ H Q I h;refine UnaryOp_ (B_ (ha pins s σ H _ I h) ?_);rintro v s1 ⟨x,H1,I1,r1,q1⟩;obtain⟨c,rfl,q1⟩:=q1
 cases r1
 exact not_of (wpAny_truthy_bool ⟨.bl (!c),H1,I1,rfl,q1⟩)
noncomputable def tIf(t:TT)(ta tb:TE):TE:=fun σ H Q=>t σ H fun c H1=>if c=true then ta σ H1 Q else tb σ H1 Q
theorem Au{c:Expr}(hc:PT X c tA)(ha:PE X a ta)(hb:PE X b tb):PE X (.IfExp c a b pos) (tIf tA ta tb):=by
 intro pins s σ H Q I h;refine wpAny_IfExp (B_ (hc pins s σ H _ I h) ?_);rintro d s1 ⟨H1,I1,q1⟩
 cases d with
 |true=>exact ha pins s1 σ H1 Q I1 q1
 |false=>exact hb pins s1 σ H1 Q I1 q1
end
def Mq(K:W.Frag)(H:Hp)(a:Addr)(xs:List V):Prop:=
 Rd H a (.lst xs)∨
  ∃(o:Obj)(its:Array Value)(n:Nat),K.lookup a=some o∧o.cls=.type "list"∧o.dict=none∧o.data=.seq its n∧its.size≤sizeLine∧aR xs its.toList
def Nf(K:W.Frag)(H:Hp)(a:Addr)(xs:List V):Prop:=
 Rd H a (.tup xs)∨
  ∃(o:Obj)(its:Array Value)(n:Nat),K.lookup a=some o∧o.cls=.type "tuple"∧o.data=.seq its n∧its.size≤sizeLine∧aR xs its.toList
noncomputable def LG:Value→Option V
 |.none=>some .non
 |.bool b=>some (.bl b)
 |.int i _=>some (.int i)
 |.str x _=>some (.str x)
 |.bytes b _=>some (.Xb b)
 |.float b _=>some (.flt b)
 |.ref a=>some (.ref a)
 |.type n=>some (.ty n)
 |_=>none
theorem aX.abs{x:V}{u:Value}(r:aX x u):LG u=some x:=by
 cases x with
 |non=>cases r;rfl
 |bl _=>cases r;rfl
 |int _=>obtain⟨t,rfl⟩:=r;rfl
 |str _=>obtain⟨t,rfl⟩:=r;rfl
 |Xb _=>obtain⟨t,rfl⟩:=r;rfl
 |flt _=>obtain⟨t,rfl⟩:=r;rfl
 |ref _=>cases r;rfl
 |ty _=>cases r;rfl
theorem aX.inj{x y:V}{u:Value}(r:aX x u)(q:aX y u):x=y:=Option.some.inj (r.abs.symm.trans q.abs)
theorem aR.inj:∀{xs ys:List V}{us:List Value},aR xs us→aR ys us→xs=ys:=by
 intro xs ys us h g;induction h generalizing ys with
 |nil=>cases g;rfl
 |cons r t h=>cases g with|cons r' t'=>rw[r.inj r',h t']
section
variable{X:Cx}{pins:List (Addr×Obj)}{σ:St}{H:Hp}{s:Shared}{a:Addr}{xs ys:List V}
theorem Mq.of{K:W.Frag}(h:H a=some (.lst xs)):Mq K H a xs:=.inl (.inl h)
theorem Nf.of{K:W.Frag}(h:H a=some (.tup xs)):Nf K H a xs:=.inl (.inl h)
theorem Inv.list(I:Inv X pins σ H s)(h:Mq X.K H a xs):∃its:List Value,aR xs its∧PlainL s.heap a its.toArray∧xs.length≤sizeLine:=by
 rcases h with h|⟨o,its,n,hk,hc,hd,hs,hz,r⟩
 ·obtain⟨z,its,n,r,e⟩:=h.ok I.hok;exact⟨its,r,⟨_,n,e,rfl,rfl,rfl⟩,z⟩
 ·refine⟨its.toList,r,⟨o,n,I.Qq a o hk,hc,hd,by simpa using hs⟩,?_⟩;have e:=r.length;simp only[Array.length_toList]at e;omega
theorem Inv.tuple(I:Inv X pins σ H s)(h:Nf X.K H a xs):∃its:List Value,aR xs its∧IsTup s.heap a its.toArray∧xs.length≤sizeLine:=by
 rcases h with h|⟨o,its,n,hk,hc,hs,hz,r⟩
 ·obtain⟨z,its,r,p⟩:=h.ok I.hok;exact⟨its,r,p,z⟩
 ·refine⟨its.toList,r,⟨o,I.Qq a o hk,hc,n,by simpa using hs⟩,?_⟩;have e:=r.length;simp only[Array.length_toList]at e;omega
theorem Inv.QJ(I:Inv X pins σ H s)(h:Mq X.K H a xs)(h':Mq X.K H a ys):xs=ys:=by
 obtain⟨its,r,⟨o,n,e,_,_,d⟩,_⟩:=I.list h;obtain⟨Qg,r',⟨o',n',e',_,_,d'⟩,_⟩:=I.list h';rw[e]at e';cases e';rw[d]at d';injection d' with d1 _
 have:its=Qg:=by simpa using congrArg Array.toList d1
 subst this;exact r.inj r'
theorem Inv.PN(I:Inv X pins σ H s)(h:Nf X.K H a xs)(h':Nf X.K H a ys):xs=ys:=by
 obtain⟨its,r,⟨o,e,_,n,d⟩,_⟩:=I.tuple h;obtain⟨Qg,r',⟨o',e',_,n',d'⟩,_⟩:=I.tuple h';rw[e]at e';cases e';rw[d]at d';injection d' with d1 _
 have:its=Qg:=by simpa using congrArg Array.toList d1
 subst this;exact r.inj r'
end
abbrev Cx.wish(X:Cx)(E:Value→Shared→Prop):Cx:={ X with xe:=E }
abbrev Cx.Ur(X:Cx):Cx:=X.wish fun _ _=>False
theorem Cx.Ok.wish{X:Cx}(ok:X.Ok)(E:Value→Shared→Prop):(X.wish E).Ok:=
 ⟨ok.mod,ok.kind,ok.glob,ok.blt,ok.above,ok.inj,ok.has,ok.cab,ok.hd,ok.frames,ok.stk,ok.exf,ok.bs,ok.Vb,ok.TX,ok.Ux,ok.QT,ok.Wa⟩
theorem Cx.Ok.Od{X:Cx}{E:Value→Shared→Prop}(ok:(X.wish E).Ok):X.Ok:=
 ⟨ok.mod,ok.kind,ok.glob,ok.blt,ok.above,ok.inj,ok.has,ok.cab,ok.hd,ok.frames,ok.stk,ok.exf,ok.bs,ok.Vb,ok.TX,ok.Ux,ok.QT,ok.Wa⟩
section
variable{X:Cx}{pins:List (Addr×Obj)}{σ:St}{H:Hp}{s:Shared}{E:Value→Shared→Prop}
theorem Inv.wish(I:Inv X pins σ H s)(E:Value→Shared→Prop):Inv (X.wish E) pins σ H s:=⟨I.ok.wish E,I.os,I.bare,I.base,I.loc,I.cell,I.free,I.Ol,I.pin,I.hok,I.len⟩
theorem Inv.Od(I:Inv (X.wish E) pins σ H s):Inv X pins σ H s:=⟨I.ok.Od,I.os,I.bare,I.base,I.loc,I.cell,I.free,I.Ol,I.pin,I.hok,I.len⟩
theorem SP.Od{D:pd}{f:Flow}{s':Shared}(h:SP (X.wish E) pins D f s'):SP X pins D f s':=by
 cases f with
 |next=>obtain⟨σ',H',I,q⟩:=h;exact⟨σ',H',I.Od,q⟩
 |brk=>obtain⟨σ',H',I,q⟩:=h;exact⟨σ',H',I.Od,q⟩
 |cont=>obtain⟨σ',H',I,q⟩:=h;exact⟨σ',H',I.Od,q⟩
 |ret u=>obtain⟨v,σ',H',I,r,q⟩:=h;exact⟨v,σ',H',I.Od,r,q⟩
theorem RK.Ur{st:List Stmt}{t:TS}(h:RK X.Ur st t):RK X st t:=fun pins s σ H D I hw=>wpAny_mono (h pins s σ H D (I.wish _) hw) (fun _ _ q=>q.Od) fun _ _ z=>False.elim z
end
section
variable{X:Cx}{st:Stmt}{rest:List Stmt}{t u:TS}{e:Expr}{te:TE}{pos:Pos}
noncomputable def Ia:TS:=fun D σ H=>D.nx σ H
noncomputable def Kw(t u:TS):TS:=fun D σ H=>t { D with nx:=u D } σ H
theorem CO:RK X [] Ia:=fun _ _ σ H _ I h=>wpAny_execs_nil ⟨σ,H,I,h⟩
theorem Aa(h1:PS X st t)(h2:RK X rest u):RK X (st::rest) (Kw t u):=by
 intro pins s σ H D I h;refine wpAny_execs_cons (B_ (h1 pins s σ H { D with nx:=u D } I h) fun f s1 q=>?_)
 cases f with
 |next=>obtain⟨σ',H',I',q⟩:=q;exact h2 pins s1 σ' H' D I' q
 |ret v=>exact q
 |brk=>exact q
 |cont=>exact q
theorem CN(h1:PS X st t):RK X [st] t:=by
 intro pins s σ H D I h;refine wpAny_execs_cons (B_ (h1 pins s σ H D I h) fun f s1 q=>?_)
 cases f with
 |next=>exact wpAny_execs_nil q
 |ret v=>exact q
 |brk=>exact q
 |cont=>exact q
theorem Inv.quiet{pins:List (Addr×Obj)}{σ:St}{H:Hp}{s:Shared}(I:Inv X pins σ H s):interactive X.env=false:=by simp[interactive,I.ok.kind]
noncomputable def Ic(te:TE):TS:=fun D σ H=>te σ H fun _ H1=>D.nx σ H1
theorem CP(he:PE X e te)(hs:swapsWith e none pos.line X.env=pure false:=by rfl):PS X (.Expr e pos) (Ic te):=by intro pins s σ H D I h;exact wpAny_Expr_any (B_ (he pins s σ H _ I h) (by rintro v s1 ⟨x,H1,I1,r1,q1⟩;exact ⟨σ,H1,I1,q1⟩)) I.quiet hs
noncomputable def Kx(te:TE):TS:=fun D σ H=>te σ H D.rt
theorem Gg(he:PE X e te):PS X (.Return (some e) pos) (Kx te):=by intro pins s σ H D I h;exact wpAny_Return_some (B_ (he pins s σ H _ I h) (by rintro v s1 ⟨x,H1,I1,r1,q1⟩;exact ⟨x,σ,H1,I1,r1,q1⟩))
noncomputable def KB(c:TT)(t u:TS):TS:=fun D σ H=>c σ H fun b H1=>if b=true then t D σ H1 else u D σ H1
theorem IM{c:Expr}{a b:List Stmt}{tc:TT}(hc:PT X c tc)(ha:RK X a t)(hb:RK X b u):PS X (.If c a b pos) (KB tc t u):=by
 intro pins s σ H D I h;refine wpAny_If (B_ (hc pins s σ H _ I h) ?_);rintro d s1 ⟨H1,I1,q1⟩
 cases d with
 |true=>exact ha pins s1 σ H1 D I1 q1
 |false=>exact hb pins s1 σ H1 D I1 q1
noncomputable def Ff:TS:=fun _ _ _=>False
theorem Ab:PS X st Ff:=fun _ _ _ _ _ _ h=>h.elim
end
abbrev TG:=V→St→Hp→(St→Hp→Prop)→Prop
abbrev Vd:=List V→St→Hp→(St→Hp→Prop)→Prop
def PG(X:Cx)(target:Expr)(t:TG):Prop:=
 ∀(pins:List (Addr×Obj))(s:Shared)(σ:St)(H:Hp)(v:V)(u:Value)(Q:St→Hp→Prop),Inv X pins σ H s→aX v u→t v σ H Q→
  wpAny (model X.prog X.w) X.A (assign target X.env u) (fun _ s'=>∃ σ' H',Inv X pins σ' H' s'∧Q σ' H') X.xe s
def Ui(X:Cx)(ts:List Expr)(t:Vd):Prop:=
 ∀(pins:List (Addr×Obj))(s:Shared)(σ:St)(H:Hp)(vs:List V)(us:List Value)(Q:St→Hp→Prop),Inv X pins σ H s→aR vs us→t vs σ H Q→
  wpAny (model X.prog X.w) X.A (assignInOrder ((assignEach ts X.env).map (·.2)) us) (fun _ s'=>∃ σ' H',Inv X pins σ' H' s'∧Q σ' H') X.xe s
abbrev HC:=V→V→V→Hp→(Hp→Prop)→Prop
def JP(X:Cx)(t:HC):Prop:=
 ∀(pins:List (Addr×Obj))(s:Shared)(σ:St)(H:Hp)(o i v:V)(ov iv u:Value)(Q:Hp→Prop),Inv X pins σ H s→aX o ov→aX i iv→aX v u→t o i v H Q→
  wpAny (model X.prog X.w) X.A (setItem ov iv u) (fun _ s'=>∃H',Inv X pins σ H' s'∧Q H') X.xe s
section
variable{X:Cx}{pos:Pos}
noncomputable def wX(i:Nat):TG:=fun v σ H Q=>Q (σ.set i (some v)) H
theorem mR{i:Nat}{x:Str}(hN:X.N.Nodup)(hi:X.N[i]? =some x)(hx:Loc X.env.scope x)(hf:X.fn x=true∨X.env.scope.names.lookup x=some .local:=by first|exact .inl rfl|exact .inr rfl|assumption):PG X (.Name x pos) (wX i):=by intro pins s σ H v u Q I r h;exact wpAny_assign_Name (sr I hN hi hx r (fun s' I'=>⟨_,H,I',h⟩) hf)
noncomputable def Lg:Vd:=fun vs σ H Q=>vs= []∧Q σ H
noncomputable def Jn(t:TG)(u:Vd):Vd:=fun vs σ H Q=>∃v r,vs=v::r∧t v σ H fun σ' H'=>u r σ' H' Q
theorem De:Ui X [] Lg:=by
 intro pins s σ H vs us Q I r h;obtain⟨e,h⟩:=h;subst e
 cases r
 exact assignInOrder_nil ⟨σ,H,I,h⟩
theorem Aq{e:Expr}{es:List Expr}{t:TG}{u:Vd}(h1:PG X e t)(h2:Ui X es u)
  (hs:(assignEach (e::es) X.env).map (·.2)=assign e X.env::(assignEach es X.env).map (·.2):=by rfl):Ui X (e::es) (Jn t u):=by
 intro pins s σ H vs us Q I r h;obtain⟨v,vr,e1,h⟩:=h;subst e1
 cases r with
 |cons r rr=>rw[hs];refine assignInOrder_cons (B_ (h1 pins s σ H _ _ _ I r h) ?_);rintro _ s1 ⟨σ1,H1,I1,q1⟩;exact h2 pins s1 σ1 H1 _ _ Q I1 rr q1
noncomputable def Le(K:W.Frag)(n:Nat)(t:Vd):TG:=fun v σ H Q=>∃a xs,v=.ref a∧Nf K H a xs∧xs.length=n∧t xs σ H Q
theorem Go{es:List Expr}{k:Nat}{t:Vd}{n:Nat}(hc:X.calm=true)(h:Ui X es t)
  (hn:(assignEach es X.env).length=n:=by rfl) (Yz:(assignEach es X.env).findIdx? (·.1)=none:=by rfl):PG X (.Tuple es k pos) (Le X.K n t):=by
 intro pins s σ H v u Q I r hw;obtain⟨a,xs,e1,hq,hl,hw⟩:=hw;subst e1
 cases r
 obtain⟨its,rv,ht,hz⟩:=I.tuple hq;refine assign_Tuple_tuple (I.ok.hd hc) ht (by simp[hn,← hl,rv.length]) Yz fun h' hx=>?_;have I1:Inv X pins σ H { s with heap:=h' }:=I.kept (t':=s.toks) fun b o e=>hx b o (Nat.ne_of_lt (Heap.lt_size e)) e;exact h pins _ σ H xs _ Q I1 (by simpa using rv) hw
noncomputable def Lf(to ti:TE)(t:HC):TG:=fun v σ H Q=>to σ H fun o H1=>ti σ H1 fun i H2=>t o i v H2 fun H3=>Q σ H3
theorem Gp{o i:Expr}{to ti:TE}{t:HC}(ho:PE X o to)(hi:PE X i ti)(hs:JP X t)
  (ha:∀v,assign (.Subscript o i pos) X.env v=(do
   let ov ← holding [v] (eval o X.env)
   let iv ← holding [v,ov] (eval i X.env)
   standAt pos
   holding [v,ov,iv] (setItem ov iv v)
   release [v,ov,iv] []):=by intro _;rfl):PG X (.Subscript o i pos) (Lf to ti t):=by
 intro pins s σ H v u Q I r h;rw[ha];refine wpAny_bind (wpAny_holding (B_ (ho pins s σ H _ I h) ?_));rintro ov s1 ⟨x,H1,I1,r1,q1⟩;refine wpAny_bind (wpAny_holding (B_ (hi pins s1 σ H1 _ I1 q1) ?_));rintro iv s2 ⟨y,H2,I2,r2,q2⟩;refine wpAny_bind (wpAny_standAt (wpAny_bind (wpAny_holding (B_ (hs pins s2 σ H2 x y v ov iv u _ I2 r1 r2 r q2) ?_))));rintro _ s3 ⟨H3,I3,q3⟩;exact wpAny_release ⟨σ,H3,I3,q3⟩
noncomputable def Ih(te:TE)(g:TG):TS:=fun D σ H=>te σ H fun x H1=>g x σ H1 D.nx
theorem Ac{tg e:Expr}{te:TE}{g:TG}(he:PE X e te)(hg:PG X tg g)(hs:swapsWithSole [tg] e pos.line X.env=pure false:=by rfl)(hw:swappedStores [tg] e X.env=pure none:=by rfl)
  (h1:(assignEach [tg] X.env).map (·.2)=[assign tg X.env]:=by rfl):PS X (.Assign [tg] e pos) (Ih te g):=by
 intro pins s σ H D I h;refine wpAny_Assign_stores (B_ (he pins s σ H _ I h) ?_) hs hw;rintro v s1 ⟨x,H1,I1,r1,q1⟩;rw[h1];exact B_ (hg pins s1 σ H1 x v _ I1 r1 q1) fun _ s2 q=>q
theorem Gf{i:Nat}{x:Str}{e:Expr}{te:TE}{pos':Pos}(hN:X.N.Nodup)(hi:X.N[i]? =some x)(hx:Loc X.env.scope x)(he:PE X e te)(hs:swapsWith e (some (.Name x pos')) pos.line X.env=pure false:=by rfl)(hf:X.fn x=true∨X.env.scope.names.lookup x=some .local:=by first|exact .inl rfl|exact .inr rfl|assumption):
  PS X (.Assign [.Name x pos'] e pos) (Ih te (wX i)):=by
 intro pins s σ H D I h;refine wpAny_Assign_Name (B_ (he pins s σ H _ I h) ?_) hs;rintro v s1 ⟨y,H1,I1,r1,q1⟩;exact sr I1 hN hi hx r1 (fun s2 I2=>⟨_,H1,I2,q1⟩) hf
end
structure It where
 go:Nat→Hp→Prop
 Vf:Nat→Hp→V→Hp→Prop
 stop:Nat→Hp→Prop
def jU(X:Cx)(pins:List (Addr×Obj))(H:Hp)(b:Addr):Prop:=
 H b=none∧b≠X.env.locals∧b∉X.fs∧(b∈X.ex∨X.s₀.heap.objs.size≤b)∧(∀x c,X.env.cells.lookup x=some c→c≠b)∧∀p∈X.pn++pins,p.1≠b
theorem Inv.QV{X:Cx}{pins:List (Addr×Obj)}{σ:St}{H H':Hp}{s:Shared}{b:Addr}(I:Inv X pins σ H s)(hb:s.heap.objs.size≤b)(hn:H' b=none):jU X pins H' b:=by
 refine⟨hn,Nat.ne_of_gt (Nat.lt_of_lt_of_le I.lt hb),I.Wv hb,.inr (Nat.le_trans I.sz hb),fun x c e z=>?_,fun p hp z=>?_⟩
 ·obtain⟨v,q⟩:=I.cell x c e;exact absurd (Nat.lt_of_lt_of_le q.lt (by rw[z];exact hb)) (Nat.lt_irrefl _)
 ·exact absurd (Nat.lt_of_lt_of_le (Heap.lt_size (I.pin p hp).1) (by rw[z];exact hb)) (Nat.lt_irrefl _)
structure rM(P:Program)(w:World)(K:W.Frag)(tg:Expr)(J:It)(fp:List Addr)(it:Addr)(tn:Nat→Heap→Prop):Prop where
 mem:it∈fp
 obj:∀i h,tn i h→∀b∈fp,∃o,h.get? b=some o∧∀v,o.data≠.cell v
 keep:∀i h h',tn i h→(∀b∈fp,∀o,h.get? b=some o→h'.get? b=some o)→tn i h'
 item:∀(X:Cx),X.prog=P→X.w=w→X.K=K→X.calm=true→∀(i:Nat)(pins:List (Addr×Obj))(s:Shared)(σ:St)(H:Hp)(E:Value→Shared→Prop),Inv X pins σ H s→(∀b∈fp,jU X pins H b)→tn i s.heap→J.go i H→
  wpAny (model P w) X.A (pyNext (.ref it)) (fun r s1=>∃u,r=some u∧
   wpAny (model P w) X.A (letOwnedTupleGo tg (.ref it) u) (fun _ s2=>∃x H',Inv X pins σ H' s2∧aX x u∧J.Vf i H x H'∧tn (i+1) s2.heap∧∀b∈fp,H' b=none) E s1) E s
 done:∀(X:Cx),X.prog=P→X.w=w→X.K=K→X.calm=true→∀(i:Nat)(pins:List (Addr×Obj))(s:Shared)(σ:St)(H:Hp)(E:Value→Shared→Prop),Inv X pins σ H s→(∀b∈fp,jU X pins H b)→tn i s.heap→J.stop i H→
  wpAny (model P w) X.A (pyNext (.ref it)) (fun r s1=>r=none∧Inv X pins σ H s1) E s
 self:∀(A:Around)(i:Nat)(s:Shared)(Q:Value→Shared→Prop)(E:Value→Shared→Prop),tn i s.heap→Q (.ref it) s→wpAny (model P w) A (pyIter (.ref it)) Q E s
abbrev TI:=St→Hp→(It→Hp→Prop)→Prop
def PIE(X:Cx)(pins:List (Addr×Obj))(σ:St)(tg:Expr)(R:It→Hp→Prop)(Xz:Value)(s2:Shared):Prop:=
 ∃(it:Addr)(fp:List Addr)(tn:Nat→Heap→Prop)(J:It)(H':Hp),Xz=.ref it∧Inv X pins σ H' s2∧rM X.prog X.w X.K tg J fp it tn∧tn 0 s2.heap∧(∀b∈fp,jU X pins H' b)∧R J H'
def PI(X:Cx)(tg iter:Expr)(wi:TI):Prop:=
 ∀(pins:List (Addr×Obj))(s:Shared)(σ:St)(H:Hp)(R:It→Hp→Prop),Inv X pins σ H s→wi σ H R→
  wpAny (model X.prog X.w) X.A (eval iter X.env) (fun v s1=>wpAny (model X.prog X.w) X.A (pyIter v) (PIE X pins σ tg R) X.xe s1) X.xe s
theorem qd{M:Model}{A:Around}{E:Value→Shared→Prop}{s:Shared}{tg:Expr}{it:Addr}{u:Value}{o:Obj}{n:String}{vs:Array Value}{Q:Unit→Shared→Prop}(ho:s.heap.get? it=some o)(hc:o.cls=.type n)(hd:o.data=.fields vs)
    (hn: ["enumerate","zip","dict_itemiterator","dict_reverseitemiterator","odict_iterator","itertools.zip_longest","itertools.pairwise"].contains n=false) (hQ:Q () s):wpAny M A (letOwnedTupleGo tg (.ref it) u) Q E s:=by
  unfold letOwnedTupleGo
  cases tg<;>first
    |exact wpAny_pure hQ
    |(cases u<;>first
      |exact wpAny_pure hQ
      |(refine wpAny_bind (wpAny_load ho ?_)
        rw[hc,hd];show wpAny M A (if(["enumerate","zip","dict_itemiterator","dict_reverseitemiterator","odict_iterator","itertools.zip_longest","itertools.pairwise"].contains n&&vs[0]? ==some (rawInt _))=true then _ else _) Q E s;rw[if_neg (by intro h;rw[hn,Bool.false_and]at h;cases h)];exact wpAny_pure hQ))
noncomputable def Zq(K:W.Frag)(a:Addr):It:=
 ⟨fun i H=>∃xs x,Mq K H a xs∧xs[i]? =some x,fun i H x H'=>H'=H∧∀xs,Mq K H a xs→xs[i]? =some x,fun i H=>∃xs,Mq K H a xs∧xs.length≤i⟩
noncomputable def Zo(K:W.Frag)(a:Addr):It:=
 ⟨fun i H=>∃xs x,Nf K H a xs∧xs[i]? =some x,fun i H x H'=>H'=H∧∀xs,Nf K H a xs→xs[i]? =some x,fun i H=>∃xs,Nf K H a xs∧xs.length≤i⟩
noncomputable def X_(lo:Int)(n:Nat):It:=⟨fun i _=>i<n,fun i H x H'=>H'=H∧x=.int (lo+i),fun i _=>n≤i⟩
theorem xD{P:Program}{w:World}{K:W.Frag}{tg:Expr}(a it:Addr):rM P w K tg (Zq K a) [it] it (fun i h=>h.IsListIter it a i) where
 mem:=by simp
 obj:=fun i h st b hb=>by
  have e:b=it:=by simpa using hb
  subst e;obtain⟨o,e,c,d⟩:=st;exact⟨o,e,fun v z=>by rw[d]at z;cases z⟩
 keep:=fun i h h' st k=>st.at fun o e=>k it (by simp) o e
 item:=by intro X hP hw hK hc i pins s σ H E I hf st hg;subst hP hw hK;obtain⟨xs,x,hq,hx⟩:=hg;obtain⟨its,rv,p,hz⟩:=I.list hq;obtain⟨u,hu,ru⟩:=rv.get hx;obtain⟨f0,f1,f2,f3,f4,f5⟩:=hf it (by simp);refine wpAny_pyNext_list_item st p.isList (x:=u) (by simpa using hu) fun h' Qt sb=>?_;have I1:Inv X pins σ H { s with heap:=h' }:=I.turned (t':=s.toks) (fun b o hb e=>(sb.2 b hb).trans e) f0 f1 f3 f4 f5;obtain⟨o,e,c,d⟩:=id Qt;exact⟨u,rfl,qd (s:={ s with heap:=h' }) e c d (by decide) ⟨x,H,I1,ru,⟨rfl,fun ys hy=>by rw[I.QJ hy hq];exact hx⟩,Qt,fun b hb=>(hf b hb).1⟩⟩
 done:=by intro X hP hw hK hc i pins s σ H E I hf st hg;subst hP hw hK;obtain⟨xs,hq,hx⟩:=hg;obtain⟨its,rv,p,hz⟩:=I.list hq;obtain⟨f0,f1,f2,f3,f4,f5⟩:=hf it (by simp);have hl:=rv.length;exact wpAny_pyNext_list_end (I.ok.hd hc) st p.isList (by simp;omega) fun h' eb=>⟨rfl,I.turned (t':=s.toks) (fun b o hb e=>eb b o hb e) f0 f1 f3 f4 f5⟩
 self:=fun _ _ _ _ _ st h=>wpAny_pyIter_listiter st h
theorem uf{P:Program}{w:World}{K:W.Frag}{tg:Expr}(a it:Addr):rM P w K tg (Zo K a) [it] it (fun i h=>h.IsTupleIter it a i) where
 mem:=by simp
 obj:=fun i h st b hb=>by
  have e:b=it:=by simpa using hb
  subst e;obtain⟨o,e,c,d⟩:=st;exact⟨o,e,fun v z=>by rw[d]at z;cases z⟩
 keep:=fun i h h' st k=>st.at fun o e=>k it (by simp) o e
 item:=by intro X hP hw hK hc i pins s σ H E I hf st hg;subst hP hw hK;obtain⟨xs,x,hq,hx⟩:=hg;obtain⟨its,rv,p,hz⟩:=I.tuple hq;obtain⟨u,hu,ru⟩:=rv.get hx;obtain⟨f0,f1,f2,f3,f4,f5⟩:=hf it (by simp);refine wpAny_pyNext_tuple_item st (show s.heap.IsTuple a its.toArray from p) (x:=u) (by simpa using hu) fun h' Qt sb=>?_;have I1:Inv X pins σ H { s with heap:=h' }:=I.turned (t':=s.toks) (fun b o hb e=>(sb.2 b hb).trans e) f0 f1 f3 f4 f5;obtain⟨o,e,c,d⟩:=id Qt;exact⟨u,rfl,qd (s:={ s with heap:=h' }) e c d (by decide) ⟨x,H,I1,ru,⟨rfl,fun ys hy=>by rw[I.PN hy hq];exact hx⟩,Qt,fun b hb=>(hf b hb).1⟩⟩
 done:=by intro X hP hw hK hc i pins s σ H E I hf st hg;subst hP hw hK;obtain⟨xs,hq,hx⟩:=hg;obtain⟨its,rv,p,hz⟩:=I.tuple hq;obtain⟨f0,f1,f2,f3,f4,f5⟩:=hf it (by simp);have hl:=rv.length;exact wpAny_pyNext_tuple_end (I.ok.hd hc) st (show s.heap.IsTuple a its.toArray from p) (by simp;omega) fun h' eb=>⟨rfl,I.turned (t':=s.toks) (fun b o hb e=>eb b o hb e) f0 f1 f3 f4 f5⟩
 self:=fun _ _ _ _ _ st h=>wpAny_pyIter_tupleiter st h
theorem ug{P:Program}{w:World}{K:W.Frag}{tg:Expr}(it:Addr)(lo:Int)(n:Nat):rM P w K tg (X_ lo n) [it] it (fun i h=>IsRangeIter h it (lo+(i:Nat) * 1) ((n:Int) - (i:Nat)) 1) where
 mem:=by simp
 obj:=fun i h st b hb=>by
  have e:b=it:=by simpa using hb
  subst e
  exact⟨_,st,fun v z=>by
   have z':Data.fields _=Data.cell v:=z
   cases z'⟩
 keep:=fun i h h' st k=>k it (by simp) _ st
 item:=by intro X hP hw hK hc i pins s σ H E I hf st hg;subst hP hw hK;obtain⟨f0,f1,f2,f3,f4,f5⟩:=hf it (by simp);have W:=Walks.range (prog:=X.prog) (w:=X.w) (I.ok.hd hc) it lo 1 n;refine W.item i s _ _ hg st fun v h' tk hv Qt kk=>?_;obtain⟨t,rfl⟩:=hv;have I1:Inv X pins σ H { s with heap:=h',toks:=tk }:=I.turned (fun b o hb e=>kk b o (by simpa using hb) e) f0 f1 f3 f4 f5;refine⟨_,rfl,qd (s:={ s with heap:=h',toks:=tk }) (n:="range_iterator") Qt rfl rfl (by decide) ⟨.int (lo+i),H,I1,⟨t,?_⟩,⟨rfl,rfl⟩,Qt,fun b hb=>(hf b hb).1⟩⟩;rw[Int.mul_one]
 done:=by intro X hP hw hK hc i pins s σ H E I hf st hg;subst hP hw hK;obtain⟨f0,f1,f2,f3,f4,f5⟩:=hf it (by simp);exact wpAny_pyNext_range_end (I.ok.hd hc) st (by have:n≤i:=hg;omega) fun h' eb=>⟨rfl,I.turned (t':=s.toks) (fun b o hb e=>eb b o hb e) f0 f1 f3 f4 f5⟩
 self:=fun _ _ _ _ _ st h=>wpAny_pyIter_rangeiter st h
section
variable{X:Cx}{tg:Expr}
def Jl(K:W.Frag)(tl:TE):TI:=fun σ H R=>tl σ H fun x H1=>∃a,x=.ref a∧(∃xs,Mq K H1 a xs)∧R (Zq K a) H1
def KW(K:W.Frag)(tl:TE):TI:=fun σ H R=>tl σ H fun x H1=>∃a,x=.ref a∧(∃xs,Nf K H1 a xs)∧R (Zo K a) H1
theorem Dc{l:Expr}{tl:TE}(hl:PE X l tl):PI X tg l (Jl X.K tl):=by
 intro pins s σ H R I h;refine B_ (hl pins s σ H _ I h) ?_;rintro v s1 ⟨x,H1,I1,r1,q1⟩;obtain⟨a,e,⟨xs,hq⟩,q⟩:=q1;subst e
 cases r1
 obtain⟨its,rv,p,hz⟩:=I1.list hq;refine wpAny_pyIter_list p.isList ?_;refine⟨s1.heap.objs.size,[s1.heap.objs.size],_,_,H1,rfl,I1.kept (t':=s1.toks) fun b o e=>Heap.get?_push_of_some _ e,xD a _,⟨_,Heap.get?_push_size _ rfl,rfl,rfl⟩,fun b hb=>?_,q⟩;have e:b=s1.heap.objs.size:=by simpa using hb
 subst e;exact I1.QV (Nat.le_refl _) (I1.hok.fresh (Nat.le_refl _))
theorem Gm{l:Expr}{tl:TE}(hl:PE X l tl):PI X tg l (KW X.K tl):=by
 intro pins s σ H R I h;refine B_ (hl pins s σ H _ I h) ?_;rintro v s1 ⟨x,H1,I1,r1,q1⟩;obtain⟨a,e,⟨xs,hq⟩,q⟩:=q1;subst e
 cases r1
 obtain⟨its,rv,p,hz⟩:=I1.tuple hq;refine wpAny_pyIter_tuple (show s1.heap.IsTuple a its.toArray from p) ?_;refine⟨s1.heap.objs.size,[s1.heap.objs.size],_,_,H1,rfl,I1.kept (t':=s1.toks) fun b o e=>Heap.get?_push_of_some _ e,uf a _,⟨_,Heap.get?_push_size _ rfl,rfl,rfl⟩,fun b hb=>?_,q⟩;have e:b=s1.heap.objs.size:=by simpa using hb
 subst e;exact I1.QV (Nat.le_refl _) (I1.hok.fresh (Nat.le_refl _))
theorem zV{pins:List (Addr×Obj)}{σ:St}{H:Hp}{s:Shared}{R:It→Hp→Prop}{E:Value→Shared→Prop}{lo hi:Int}{t u v:Tok}{tk:Nat}(I:Inv X pins σ H s)(h1: -(2 ^ 62)≤lo)(h2:lo<2 ^ 62)(h3: -(2 ^ 62)≤hi)(h4:hi<2 ^ 62)
  (q:R (X_ lo (hi - lo).toNat) H):wpAny (model X.prog X.w) X.A (pyIter (.ref s.heap.objs.size)) (PIE X pins σ tg R) E { s with heap:=s.heap.push { cls:=.type "range",data:=.fields #[.int lo t,.int hi u,.int 1 v] },toks:=tk }:=by
 refine wpAny_pyIter_range (IsRange.new ..) (small_one h1 h2 h3 h4) ?_;have I1:Inv X pins σ H { s with heap:=s.heap.push { cls:=.type "range",data:=.fields #[.int lo t,.int hi u,.int 1 v] },toks:=tk }:=I.kept fun b o e=>Heap.get?_push_of_some _ e
 refine⟨(s.heap.push { cls:=.type "range",data:=.fields #[.int lo t,.int hi u,.int 1 v] }).objs.size,[(s.heap.push { cls:=.type "range",data:=.fields #[.int lo t,.int hi u,.int 1 v] }).objs.size],_,_,H,rfl,
  I1.kept (t':=tk) fun b o e=>Heap.get?_push_of_some _ e,ug _ lo (hi - lo).toNat,?_,fun b hb=>?_,q⟩
 ·have e1:lo+((0:Nat):Int) * 1=lo:=by simp
  have e2:(((hi - lo).toNat:Nat):Int) - ((0:Nat):Int)=Builtin.Range.rangeSize lo hi 1:=by rw[rangeSize_one];split<;>omega
  show IsRangeIter _ _ (lo+((0:Nat):Int) * 1) ((((hi - lo).toNat:Nat):Int) - ((0:Nat):Int)) 1;rw[e1,e2];exact Heap.get?_push_size _ rfl
 ·have e:b=(s.heap.push { cls:=.type "range",data:=.fields #[.int lo t,.int hi u,.int 1 v] }).objs.size:=by simpa using hb
  subst e;exact I1.QV (Nat.le_refl _) (I1.hok.fresh (Nat.le_refl _))
def Jk(ta:TA):TI:=fun σ H R=>ta σ H fun vs H1=>∃j:Int,vs= [.int j]∧ -(2 ^ 62)≤j∧j<2 ^ 62∧R (X_ 0 j.toNat) H1
theorem yf{a:Expr}{ta:TA}{p pos:Pos}(hg:Gl X "range")(hm:X.mg "range"=none)(ha:PA X [a] ta)(hs:starEach [a] X.env= [(false,eval a X.env)]:=by rfl):PI X tg (.Call (.Name "range" p) [a] [] pos) (Jk ta):=by
 intro pins s σ H R I h;refine Call_ (il I hg hm boot_range (PyProof.Rows.callWith_type1 (B_ (ha pos pins s σ H _ I h) ?_) hs rfl));rintro us s1 ⟨vs,H1,I1,r1,q1⟩;obtain⟨j,e,q1,q2,q⟩:=q1;subst e
 cases r1 with
 |cons r rr=>
  cases rr
  obtain⟨t,rfl⟩:=r;exact call_range_1 (zV I1 (by omega) (by omega) q1 q2 (by simpa using q))
noncomputable def KC(wi:TI)(g:TG)(tb:TS):TS:=fun D σ H=>wi σ H fun J H1=>∃W:Nat→Nat→St→Hp→Prop,(∃m,W 0 m σ H1)∧∀i m σ H,W i m σ H→
 (J.stop i H∧D.nx σ H)∨(J.go i H∧∃N:St→Hp→Prop,(∀ σ' H',N σ' H'→∃m',m'<m∧W (i+1) m' σ' H')∧∀x H',J.Vf i H x H'→g x σ H' fun σ2 H2=>tb { D with nx:=N,ct:=N,bk:=D.nx } σ2 H2)
noncomputable def ma(fp:List Addr)(h:Heap):List (Addr×Obj):=fp.filterMap fun b=>(h.get? b).map fun o=>(b,o)
theorem fH{fp:List Addr}{h:Heap}{b:Addr}{o:Obj}(hb:b∈fp)(e:h.get? b=some o):(b,o)∈ma fp h:=List.mem_filterMap.mpr ⟨b,hb,by rw[e];rfl⟩
theorem yn{fp:List Addr}{h:Heap}{p:Addr×Obj}(hp:p∈ma fp h):p.1∈fp∧h.get? p.1=some p.2:=by
 obtain⟨b,hb,e⟩:=List.mem_filterMap.mp hp
 cases q:h.get? b with
 |none=>rw[q]at e;cases e
 |some o=>rw[q]at e;have e':(b,o)=p:=Option.some.inj e;subst e';exact⟨hb,q⟩
theorem Inv.pinned{pins:List (Addr×Obj)}{σ:St}{H:Hp}{s:Shared}{fp:List Addr}(I:Inv X pins σ H s)(hf:∀b∈fp,jU X pins H b)(ho:∀b∈fp,∃o,s.heap.get? b=some o∧∀v,o.data≠.cell v):Inv X (pins++ma fp s.heap) σ H s:=
 I.Mh fun p hp=>(List.mem_append.mp hp).elim (fun z=>I.pin p (List.mem_append_right _ z)) fun z=>by obtain⟨hb,e⟩:=yn z;obtain⟨f0,f1,f2,_⟩:=hf p.1 hb;obtain⟨o,e',d⟩:=ho p.1 hb;rw[e]at e';cases e';exact⟨e,f0,f1,f2,d⟩
theorem Inv.QB{pins pl:List (Addr×Obj)}{σ:St}{H:Hp}{s:Shared}(I:Inv X (pins++pl) σ H s):Inv X pins σ H s:=I.Mh fun p hp=>I.pin p (List.mem_append_right _ (List.mem_append_left _ hp))
theorem Gh{iter:Expr}{body:List Stmt}{wi:TI}{g:TG}{tb:TS}{pos:Pos}(hp:PassesOwn (model X.prog X.w) X.A X.env X.xe)(hc:X.calm=true)(hi:PI X tg iter wi)(hg:PG X tg g)(hb:RK X body tb)
  (hs:∀x,foldedSetIterable iter X.env x=pure x:=by intro _;rfl):PS X (.For tg iter body [] pos) (KC wi g tb):=by
 intro pins s σ H D I h;refine wpAny_For (B_ (hi pins s σ H _ I h) fun v s1 h1=>B_ h1 fun Xz s2 h2=>?_) hs;obtain⟨it,fp,tn,J,H2,e,I2,T,TF,f2,W,⟨m0,w0⟩,turn⟩:=h2;subst e;have stat:∀{H':Hp},(∀b∈fp,H' b=none)→∀b∈fp,jU X pins H' b:=fun hn b hb=>⟨hn b hb,(f2 b hb).2⟩
 refine codeAny_forLoop_any (fun n s'=>∃i σ' H',Inv X pins σ' H' s'∧tn i s'.heap∧(∀b∈fp,H' b=none)∧W i n σ' H') ?_ m0 ⟨0,σ,H2,I2,TF,fun b hb=>(f2 b hb).1,w0⟩
 rintro n s3 ⟨i,σ3,H3,I3,st3,fr3,w3⟩
 rcases turn i n σ3 H3 w3 with⟨stop,qn⟩|⟨go,N,hN,step⟩
 ·refine wpAny_passesOwn hp (B_ (T.done X rfl rfl rfl hc i pins s3 σ3 H3 X.xe I3 (stat fr3) st3 stop) ?_);rintro r s4 ⟨hr,I4⟩;subst hr;exact wpAny_execs_nil ⟨σ3,H3,I4,qn⟩
 ·refine wpAny_passesOwn hp (B_ (T.item X rfl rfl rfl hc i pins s3 σ3 H3 X.xe I3 (stat fr3) st3 go) ?_);rintro r s4 ⟨u,hr,h4⟩;subst hr;refine wpAny_passesOwn hp (B_ h4 ?_);rintro _ s5 ⟨x,H5,I5,r5,y5,Ul,VB⟩;have VR:=I5.pinned (stat VB) (T.obj _ _ Ul);refine wpAny_passesOwn hp (B_ (hg _ s5 σ3 H5 x u _ VR r5 (step x H5 y5)) ?_);rintro _ s6 ⟨σ6,H6,I6,q6⟩;refine wpAny_passesOwn hp (B_ (hb _ s6 σ6 H6 _ I6 q6) fun f s7 q7=>?_)
  have again:∀{σ7:St}{H7:Hp},Inv X (pins++ma fp s5.heap) σ7 H7 s7→N σ7 H7→∃m,m<n∧∃i σ' H',Inv X pins σ' H' s7∧tn i s7.heap∧(∀b∈fp,H' b=none)∧W i m σ' H':=fun{σ7 H7} I7 n7=>by obtain⟨m',hm,w7⟩:=hN σ7 H7 n7;refine⟨m',hm,i+1,σ7,H7,I7.QB,T.keep _ _ _ Ul fun b hb o e=>(I7.pin (b,o) (List.mem_append_right _ (List.mem_append_right _ (fH hb e)))).1,fun b hb=>?_,w7⟩;obtain⟨o,e,d⟩:=T.obj _ _ Ul b hb;exact(I7.pin (b,o) (List.mem_append_right _ (List.mem_append_right _ (fH hb e)))).2.1
  cases f with
  |next=>obtain⟨σ7,H7,I7,n7⟩:=q7;exact again I7 n7
  |cont=>obtain⟨σ7,H7,I7,n7⟩:=q7;exact again I7 n7
  |brk=>obtain⟨σ7,H7,I7,q7⟩:=q7;exact⟨σ7,H7,I7.QB,q7⟩
  |ret v=>obtain⟨x7,σ7,H7,I7,r7,q7⟩:=q7;exact⟨x7,σ7,H7,I7.QB,r7,q7⟩
end
abbrev R2:=V→V→Hp→VK→Prop
def Ng(X:Cx)(f:Value→Value→Sem Value)(r:R2):Prop:=
 ∀(pins:List (Addr×Obj))(s:Shared)(σ:St)(H:Hp)(x y:V)(v u:Value)(Q:VK),Inv X pins σ H s→aX x v→aX y u→r x y H Q→
  wpAny (model X.prog X.w) X.A (f v u) (EP X pins σ Q) X.xe s
def X7(X:Cx)(f:Value→Sem Value)(r:V→Hp→VK→Prop):Prop:=
 ∀(pins:List (Addr×Obj))(s:Shared)(σ:St)(H:Hp)(x:V)(v:Value)(Q:VK),Inv X pins σ H s→aX x v→r x H Q→
  wpAny (model X.prog X.w) X.A (f v) (EP X pins σ Q) X.xe s
def cY(X:Cx)(f:Value)(r:List V→Hp→VK→Prop):Prop:=
 ∀(pins:List (Addr×Obj))(s:Shared)(σ:St)(H:Hp)(xs:List V)(us:List Value)(Q:VK),Inv X pins σ H s→aR xs us→r xs H Q→
  wpAny (model X.prog X.w) X.A (call f us) (EP X pins σ Q) X.xe s
def LH(X:Cx)(r:V→Hp→(Bool→Hp→Prop)→Prop):Prop:=
 ∀(pins:List (Addr×Obj))(s:Shared)(σ:St)(H:Hp)(x:V)(v:Value)(Q:Bool→Hp→Prop),Inv X pins σ H s→aX x v→r x H Q→
  wpAny (model X.prog X.w) X.A (truthy v) (TP X pins σ Q) X.xe s
noncomputable def Wh(r:R2)(ta tb:TE):TE:=fun σ H Q=>ta σ H fun x H1=>tb σ H1 fun y H2=>r x y H2 Q
noncomputable def ZP(r:V→Hp→VK→Prop)(ta:TE):TE:=fun σ H Q=>ta σ H fun x H1=>r x H1 Q
noncomputable def rI(C:Int→Int→Prop)(g:Int→Int→V):R2:=fun x y H Q=>∃i j,x=.int i∧y=.int j∧C i j∧Q (g i j) H
noncomputable def Uq(g:Int→Int→V):R2:=fun x y H Q=>∃i j,x=.int i∧y=.int j∧Q (g i j) H
def rU(g:Int→V):V→Hp→VK→Prop:=fun x H Q=>∃i,x=.int i∧Q (g i) H
section
variable{X:Cx}{a b c:Expr}{ta tb tc:TE}{pos:Pos}
theorem Hu(ha:PE X a ta)(hb:PE X b tb){pins:List (Addr×Obj)}{s:Shared}{σ:St}{H:Hp}{R:V→V→Hp→Prop}(I:Inv X pins σ H s)
  (h:ta σ H fun x H1=>tb σ H1 fun y H2=>R x y H2) {Q:Value→Shared→Prop} {f:Value→Value→Sem Value}
  (hf:∀v u s2 x y H2,Inv X pins σ H2 s2→aX x v→aX y u→R x y H2→wpAny (model X.prog X.w) X.A (f v u) Q X.xe s2):
  wpAny (model X.prog X.w) X.A (eval a X.env) (fun v s₁=>wpAny (model X.prog X.w) X.A (eval b X.env) (fun u s₂=>wpAny (model X.prog X.w) X.A (f v u) Q X.xe s₂) X.xe s₁) X.xe s:=by
 refine B_ (ha pins s σ H _ I h) ?_;rintro v s1 ⟨x,H1,I1,r1,q1⟩;refine B_ (hb pins s1 σ H1 _ I1 q1) ?_;rintro u s2 ⟨y,H2,I2,r2,q2⟩;exact hf v u s2 x y H2 I2 r1 r2 q2
theorem IR{op:Operator}{r:R2}(ho:Ng X (binaryOp op) r)(ha:PE X a ta)(hb:PE X b tb):PE X (.BinOp a op b pos) (Wh r ta tb):=by intro pins s σ H Q I h;exact wpAny_BinOp (Hu ha hb I h fun v u s2 x y H2 I2 rx ry q=>ho pins s2 σ H2 x y v u Q I2 rx ry q)
theorem IP{op:UnaryOp}{r:V→Hp→VK→Prop}(ho:X7 X (unaryOp op) r)(ha:PE X a ta):PE X (.UnaryOp op a pos) (ZP r ta):=by intro pins s σ H Q I h;exact UnaryOp_ (B_ (ha pins s σ H _ I h) (by rintro v s1 ⟨x,H1,I1,r1,q1⟩;exact ho pins s1 σ H1 x v Q I1 r1 q1))
theorem Yp{f:Value→Value→Sem Value}{C:Int→Int→Prop}{g:Int→Int→Int}
  (rule:∀(i j:Int)(t u:Tok)(s:Shared)(Q:Value→Shared→Prop)(E:Value→Shared→Prop),C i j→Q (.int (g i j) s.toks) { s with toks:=s.toks+1 }→wpAny (model X.prog X.w) X.A (f (.int i t) (.int j u)) Q E s):
  Ng X f (rI C fun i j=>.int (g i j)):=by
 intro pins s σ H x y v u Q I rx ry h;obtain⟨i,j,rfl,rfl,hc,q⟩:=h;obtain⟨t,rfl⟩:=rx;obtain⟨t',rfl⟩:=ry;exact rule i j t t' s _ _ hc ⟨.int (g i j),H,I.tok _,⟨_,rfl⟩,q⟩
theorem IW{f:Value→Value→Sem Value}{g:Int→Int→Int}
  (rule:∀(i j:Int)(t u:Tok)(s:Shared)(Q:Value→Shared→Prop)(E:Value→Shared→Prop),Q (.int (g i j) s.toks) { s with toks:=s.toks+1 }→wpAny (model X.prog X.w) X.A (f (.int i t) (.int j u)) Q E s):
  Ng X f (Uq fun i j=>.int (g i j)):=by
 intro pins s σ H x y v u Q I rx ry h;obtain⟨i,j,rfl,rfl,q⟩:=h;obtain⟨t,rfl⟩:=rx;obtain⟨t',rfl⟩:=ry;exact rule i j t t' s _ _ ⟨.int (g i j),H,I.tok _,⟨_,rfl⟩,q⟩
theorem IX{f:Value→Value→Sem Value}{g:Int→Int→Bool}
  (rule:∀(i j:Int)(t u:Tok)(s:Shared)(Q:Value→Shared→Prop)(E:Value→Shared→Prop),Q (.bool (g i j)) s→wpAny (model X.prog X.w) X.A (f (.int i t) (.int j u)) Q E s):
  Ng X f (Uq fun i j=>.bl (g i j)):=by
 intro pins s σ H x y v u Q I rx ry h;obtain⟨i,j,rfl,rfl,q⟩:=h;obtain⟨t,rfl⟩:=rx;obtain⟨t',rfl⟩:=ry;exact rule i j t t' s _ _ ⟨.bl (g i j),H,I,rfl,q⟩
def LM(i j:Int):Prop:=0<j∧j<1073741824
def Ep(i j:Int):Prop:=(-(2 ^ 64)<i∧i<2 ^ 64)∨(-(2 ^ 64)<j∧j<2 ^ 64)
theorem Ep.ok{i j:Int}(h:Ep i j):IntMulOk i j:=by
 rcases h with⟨h1,h2⟩|⟨h1,h2⟩
 ·exact .of_left (intBits_le_64 h1 h2)
 ·exact .of_right (intBits_le_64 h1 h2)
theorem GP:Ng X (binaryOp .Add) (Uq fun i j=>.int (i+j)):=IW fun _ _ _ _ _ _ _ q=>add_int q
theorem GF:Ng X (binaryOp .Sub) (Uq fun i j=>.int (i - j)):=IW fun _ _ _ _ _ _ _ q=>sub_int q
theorem GI:Ng X (binaryOp .Mult) (rI Ep fun i j=>.int (i * j)):=Yp fun _ _ _ _ _ _ _ hc q=>mul_int q hc.ok
theorem Dn:Ng X (binaryOp .FloorDiv) (rI LM fun i j=>.int (i / j)):=Yp fun i j _ _ _ _ _ hc q=>by have h1:(0:Int)<j:=hc.1;have h2:j<1073741824:=hc.2;exact floordiv_int (by omega) (by rw[Int.fdiv_eq_ediv_of_nonneg i (by omega)];exact q) (.inl (PyProof.noPylong_small (by omega)))
theorem GJ:Ng X (binaryOp .Mod) (rI (fun _ j=>0<j) fun i j=>.int (i % j)):=Yp fun i j _ _ _ _ _ hc q=>by have h1:(0:Int)<j:=hc;exact mod_int' (by omega) (by rw[Int.fmod_eq_emod_of_nonneg i (by omega)];exact q)
theorem unI{f:Value→Sem Value}{g:Int→Int}
  (rule:∀(i:Int)(t:Tok)(s:Shared)(Q:Value→Shared→Prop)(E:Value→Shared→Prop),Q (.int (g i) s.toks) { s with toks:=s.toks+1 }→wpAny (model X.prog X.w) X.A (f (.int i t)) Q E s):
  X7 X f (rU fun i=>.int (g i)):=by
 intro pins s σ H x v Q I rx h;obtain⟨i,rfl,q⟩:=h;obtain⟨t,rfl⟩:=rx;exact rule i t s _ _ ⟨.int (g i),H,I.tok _,⟨_,rfl⟩,q⟩
theorem Fc:X7 X (unaryOp .USub) (rU fun i=>.int (-i)):=unI fun _ _ _ _ _ q=>neg_int q
theorem yk:Ng X (binaryOp .Add) (fun x y H Q=>∃i k,x=.int i∧y=.bl k∧Q (.int (i+b2i k)) H):=by
 intro pins s σ H x y v u Q I rx ry h;obtain⟨i,k,rfl,rfl,q⟩:=h;obtain⟨t,rfl⟩:=rx
 cases ry
 exact add_int_bool ⟨.int (i+b2i k),H,I.tok _,⟨_,rfl⟩,q⟩
end
section
variable{X:Cx}{a b c:Expr}{ta tb tc:TE}{pos:Pos}
theorem Bn{pins:List (Addr×Obj)}{σ:St}{H:Hp}{s:Shared}{Q:VK}{k k':Bool}(I:Inv X pins σ H s)(q:Q (.bl k) H)(e:k=k'):EP X pins σ Q (.bool k') s:=by subst e;exact⟨.bl k,H,I,rfl,q⟩
theorem EG:Ng X (compareOp .Lt) (Uq fun i j=>.bl (decide (i<j))):=IX fun _ _ _ _ _ _ _ q=>lt_int q
theorem EH:Ng X (compareOp .Gt) (Uq fun i j=>.bl (decide (j<i))):=IX fun _ _ _ _ _ _ _ q=>gt_int q
theorem GK:Ng X (compareOp .Is) (fun x y H Q=>y=.non∧Q (.bl (decide (x=.non))) H):=by
 intro pins s σ H x y v u Q I rx ry h;obtain⟨rfl,q⟩:=h
 cases ry
 refine is_none_gen (Bn I q ?_)
 cases x<;>first
  |(cases rx;rfl)
  |(obtain⟨t,rfl⟩:=rx;rfl)
theorem Dl:Ng X (compareOp .IsNot) (fun x y H Q=>y=.non∧Q (.bl (!decide (x=.non))) H):=by
 intro pins s σ H x y v u Q I rx ry h;obtain⟨rfl,q⟩:=h
 cases ry
 refine isnot_none_gen (Bn I q ?_)
 cases x<;>first
  |(cases rx;rfl)
  |(obtain⟨t,rfl⟩:=rx;rfl)
theorem ik(b:Expr){op:CmpOp}(h:op≠.In:=by decide)(h2:op≠.NotIn:=by decide):behindInMarks op b=false:=by
 have e1:(op==CmpOp.In)=false:=by cases op<;>first|rfl|exact absurd rfl h
 have e2:(op==CmpOp.NotIn)=false:=by cases op<;>first|rfl|exact absurd rfl h2
 cases b<;>simp[behindInMarks,e1,e2]
theorem Dg{op:CmpOp}{r:R2}(ho:Ng X (compareOp op) r)(ha:PE X a ta)(hb:PE X b tb)(hm:behindInMarks op b=false):PE X (.Compare a [op] [b] pos) (Wh r ta tb):=by intro pins s σ H Q I h;exact wpAny_Compare1 (Hu ha hb I h fun v u s2 x y H2 I2 rx ry q=>ho pins s2 σ H2 x y v u Q I2 rx ry q) hm
noncomputable def HW(t:TE):TT:=fun σ H Q=>t σ H fun x H'=>∃k,x=.bl k∧Q k H'
theorem CM{op:CmpOp}{r:R2}(ho:Ng X (compareOp op) r)(ha:PE X a ta)(hb:PE X b tb)(hm:behindInMarks op b=false):PT X (.Compare a [op] [b] pos) (HW (Wh r ta tb)):=by
 intro pins s σ H Q I h
 refine wpAny_isTrue_Compare1 (B_ (ha pins s σ H _ I h) fun v s1 ⟨x,H1,I1,r1,q1⟩=>B_ (hb pins s1 σ H1 _ I1 q1) fun u s2 ⟨y,H2,I2,r2,q2⟩=>B_ (ho pins s2 σ H2 x y v u _ I2 r1 r2 q2) ?_) hm;rintro c s3 ⟨z,H3,I3,r3,k,e,q3⟩
 subst e
 cases r3
 exact wpAny_truthy_bool ⟨H3,I3,q3⟩
def HB(K:W.Frag)(x:V)(H:Hp)(k:Bool):Prop:=
 match x with
 |.non=>k=false
 |.bl b=>k=b
 |.int i=>k=(i !=0)
 |.str y=>y.length≤sizeLine∧k=((y.length:Int) !=0)
 |.Xb y=>y.size≤sizeLine∧k=((y.size:Int) !=0)
 |.ref p=>(∃xs,Mq K H p xs∧k=!xs.isEmpty)∨(∃xs,Nf K H p xs∧k=!xs.isEmpty)∨∃kvs,H p=some (.dK kvs)∧k=!kvs.isEmpty
 |_=>False
theorem vf{κ:Type}{kvs:List (κ×V)}{vs:List (κ×Value)}(r:KV kvs vs):(!vs.isEmpty)=!kvs.isEmpty:=by cases r<;>rfl
theorem oj{xs:List V}{its:List Value}(r:aR xs its):(!its.toArray.isEmpty)=!xs.isEmpty:=by cases r<;>simp
theorem kz:(sizeLine:Nat)<2 ^ 63:=by rw[sizeLine_eq];decide
theorem Fe:LH X (fun x H Q=>∃k,HB X.K x H k∧Q k H):=by
 intro pins s σ H x v Q I rx h;obtain⟨k,e,q⟩:=h;have hl:=kz;have hs:sizeLine=16777216:=sizeLine_eq
 cases x with
 |non=>
  cases rx
  have e':k=false:=e;subst e';exact truthy_none ⟨H,I,q⟩
 |bl b=>
  cases rx
  have e':k=b:=e;subst e';exact wpAny_truthy_bool ⟨H,I,q⟩
 |int i=>obtain⟨t,rfl⟩:=rx;have e':k=(i !=0):=e;subst e';exact PySem.P.truthy_int ⟨H,I,q⟩
 |str y=>obtain⟨t,rfl⟩:=rx;obtain⟨hy,e'⟩:y.length≤sizeLine∧k=((y.length:Int) !=0):=e;subst e';exact PySem.P.truthy_str (by omega) ⟨H,I.tok _,q⟩
 |Xb y=>obtain⟨t,rfl⟩:=rx;obtain⟨hy,e'⟩:y.size≤sizeLine∧k=((y.size:Int) !=0):=e;subst e';exact W.truthy_bytes (by omega) ⟨H,I.tok _,q⟩
 |ref p=>
  cases rx
  have e':(∃xs,Mq X.K H p xs∧k=!xs.isEmpty)∨(∃xs,Nf X.K H p xs∧k=!xs.isEmpty)∨∃kvs,H p=some (.dK kvs)∧k=!kvs.isEmpty:=e;rcases e' with⟨xs,hx,e'⟩|⟨xs,hx,e'⟩|⟨kvs,hx,e'⟩
  ·subst e';obtain⟨its,r,pl,hz⟩:=I.list hx;have E_:=r.length;exact wpAny_truthy_list pl.isList (by simp only[List.size_toArray];omega) ⟨H,I.tok _,by rw[oj r];exact q⟩
  ·subst e';obtain⟨its,r,pl,hz⟩:=I.tuple hx;have E_:=r.length;exact truthy_tuple pl (by simp only[List.size_toArray];omega) ⟨H,I.tok _,by rw[oj r];exact q⟩
  ·subst e';obtain⟨hz,hS,vs,r,m⟩:kvs.length≤sizeLine∧(p==sysModules)=false∧∃vs,KV kvs vs∧s.heap.DictOf (aY X.prog X.w) p vs:=I.hok p _ hx;have E_:kvs.length=vs.length:=Paired.length r;exact wpAny_truthy_dict hS m (by omega) ⟨H,I.tok _,by rw[vf r];exact q⟩
 |_=>exact(show False from e).elim
theorem zZ(ha:PE X a ta)(he:∀whole,isTrue a X.env whole=(do let v ← whole;standAt a.pos;holding [v] (truthy v))):
  PT X a (fun σ H Q=>ta σ H fun x H'=>∃k,HB X.K x H' k∧Q k H'):=by
 intro pins s σ H Q I h;exact isTrue_plain (B_ (ha pins s σ H _ I h) (by rintro v s1 ⟨x,H1,I1,r1,q1⟩;exact Fe pins s1 σ H1 x v Q I1 r1 q1)) (he _)
theorem uP:Ng X (binaryOp .Add) (fun x y H Q=>∃i j,x=.str i∧y=.str j∧i.length+j.length≤sizeLine∧Q (.str (i++j)) H):=by intro pins s σ H x y v u Q I rx ry h;obtain⟨i,j,rfl,rfl,hz,q⟩:=h;obtain⟨t,rfl⟩:=rx;obtain⟨t',rfl⟩:=ry;exact add_str (fun t' tk=>⟨.str (i++j),H,I.tok _,⟨_,rfl⟩,q⟩) hz
theorem nc{x:V}{us:List Value}(r:aR [x] us):∃u,us= [u]∧aX x u:=by
 cases r with
 |cons r1 r2=>cases r2;exact⟨_,rfl,r1⟩
theorem yW{x y:V}{us:List Value}(r:aR [x,y] us):∃u w',us= [u,w']∧aX x u∧aX y w':=by
 cases r with
 |cons r1 r2=>
  cases r2 with
  |cons r3 r4=>cases r4;exact⟨_,_,rfl,r1,r3⟩
theorem yM(hc:X.calm=true):cY X (.builtin "max") (fun xs H Q=>∃i j,xs= [.int i,.int j]∧Q (.int (if j>i then j else i)) H):=by
 intro pins s σ H xs us Q I r h;obtain⟨i,j,rfl,q⟩:=h;obtain⟨u,w',rfl,⟨t,rfl⟩,⟨t',rfl⟩⟩:=yW r;refine max_two_ints (I.ok.hd hc) fun h' tk k=>⟨_,H,I.kept k,?_,q⟩
 by_cases hj:j>i
 ·rw[if_pos hj,if_pos hj];exact⟨_,rfl⟩
 ·rw[if_neg hj,if_neg hj];exact⟨_,rfl⟩
theorem yP:cY X (.type "int") (fun xs H Q=>(∃i,xs= [.int i]∧Q (.int i) H)∨∃k,xs= [.bl k]∧Q (.int (if k then 1 else 0)) H):=by
 intro pins s σ H xs us Q I r h;rcases h with⟨i,rfl,q⟩|⟨k,rfl,q⟩
 ·obtain⟨u,rfl,t,rfl⟩:=nc r;exact call_int_int ⟨.int i,H,I,⟨_,rfl⟩,q⟩
 ·obtain⟨u,rfl,r1⟩:=nc r
  cases r1
  exact call_int_bool ⟨.int (if k then 1 else 0),H,I.tok _,⟨_,rfl⟩,q⟩
theorem rD:cY X (.type "str") (fun xs H Q=>∃i,xs= [.int i]∧i.natAbs.log2<1920∧Q (.str (toString i)) H):=by intro pins s σ H xs us Q I r h;obtain⟨i,rfl,hz,q⟩:=h;obtain⟨u,rfl,t,rfl⟩:=nc r;exact PySem.P.str_of_int hz ⟨.str _,H,I.tok _,⟨_,rfl⟩,q⟩
end
structure Em(h:Heap)(x dx C:Addr)(mA:Str→Option Value):Prop where
 obj:h.get? x=some (W.instObj C dx)
 ns:h.Ns1 dx mA
 ne:dx≠x
theorem yz{h:Heap}{dx:Addr}{mA:Str→Option Value}(n:h.Ns1 dx mA):∃od,h.get? dx=some od∧∀name,W.lookIn name od=some (mA name):=by
 obtain⟨o,es,ep,ho,hd,hk,_,hm⟩:=n;refine⟨o,ho,fun name=>?_⟩;have e:=hm name;unfold nsFind findBy at e;rw[← Array.find?_toList]at e;unfold W.lookIn;rw[hd];dsimp only
 split
 ·rename_i y q;rw[q]at e;exact congrArg some e
 ·rename_i q;rw[q]at e
  have a:es.toList.any (·.refKey)=false:=by rw[List.any_eq_false];intro y hy;obtain⟨z,t,SX⟩:=hk y (Array.mem_toList_iff.mp hy);simp[DictEntry.refKey,SX]
  have a':¬ es.toList.any (·.refKey)=true:=by rw[a];exact Bool.false_ne_true
  rw[if_neg a'];exact congrArg some e
theorem Em.look{h:Heap}{x dx C:Addr}{mA:Str→Option Value}(I:Em h x dx C mA):∃od,W.InstAt h x (W.instObj C dx) C (some od)∧∀name,W.lookIn name od=some (mA name):=
 let⟨od,ho,hl⟩:=yz I.ns
 ⟨od,⟨I.obj,rfl,rfl,ho⟩,hl⟩
section
variable{prog:Program}{w:World}{A:Around}{E:Value→Shared→Prop}{s:Shared}{K:W.Frag}{x dx C f:Addr}{mA:Str→Option Value}{name:Str}{v:Value}
theorem Bi{pl:Sem Bool}{Q:Value×List Value→Shared→Prop}(X:K.In s.heap)(I:Em s.heap x dx C mA)(hg:W.plainGet K C name=true)
  (hf:W.findIn K (.ref C) name=some (some (.ref f))) (ht:W.isFn K (.ref f)=true) (hv:mA name=none) (h:Q (.ref f,[.ref x]) s):
  wpAny (model prog w) A (getMethod (.ref x) name pl) Q E s:=by
 obtain⟨od,J,hl⟩:=I.look;exact W.method_fn X J (W.plainGet_of hg).1 (W.plainGet_of hg).2 hf (beq_iff_eq.mp ht) (by show(W.lookIn name od).map (·.isSome)=some false;rw[hl,hv];rfl) h
theorem yw{R:Result→Shared→Prop}(X:K.In s.heap)(hm:W.makesIn K C=true)
  (hi:W.findIn K (.ref C) "__init__"=some (some (.builtin "object.__init__")))
  (hb:∀self,W.Looks (model prog w) s.heap (bindSpecial (.builtin "object.__init__") self) (.builtin "object.__init__",[self]))
  (h:codeAny (model prog w) (A.under (.builtin "type.__call__" ⟨[.ref C],[]⟩)) (.call (.builtin "object.__init__") ⟨[.ref (s.heap.objs.size+1)],[]⟩) (W.InitBack (s.heap.objs.size+1) R)
   { s with heap:=(s.heap.push W.emptyDict).push (W.instObj C s.heap.objs.size) }):
  codeAny (model prog w) A (.call (.ref C) ⟨[],[]⟩) R s:=by
 obtain⟨hh,g,d,t,os⟩:=s;exact W.make_core (W.makes_of X hm) (W.looks_findIn X hi) hb (.inr ⟨rfl,rfl⟩) h
end
theorem jj.some_of{v:V}{o:Option Value}(r:jj (some v) o):∃u,o=some u∧aX v u:=by
 cases o with
 |none=>exact(show False from r).elim
 |some u=>exact⟨u,rfl,r⟩
theorem jj.none_of{o:Option Value}(r:jj none o):o=none:=by
 cases o with
 |none=>rfl
 |some u=>exact(show False from r).elim
section
variable{P:Program}{w:World}{H H':Hp}{h h':Heap}{a C dx:Addr}{fs fs':List (Str×V)}
theorem DK(hok:Oc P w H h)(e:H a=some (.ins C dx fs)):∃mA,Em h a dx C mA∧(∀f,jj (fs.lookup f) (mA f))∧PySem.Within mA (fs.map (·.1))∧fs.length≤1000∧H dx=some (.own a):=by
 obtain⟨d,z,ne,ob,mA,n,r,q⟩:=(show bN P w H h a (.ins C dx fs)from hok a _ e)
 exact⟨mA,⟨ob,n,ne⟩,r,q,z,d⟩
end
structure Cls(K:W.Frag)(C:Addr):Prop where
 pg:W.plainGet K C Str.empty=true
 hd:W.hasDictIn K C=true
 po:W.plainOver K C=true
 sa:W.findIn K (.ref C) "__setattr__"=some (some (.builtin "object.__setattr__"))
theorem Cls.get{K:W.Frag}{C:Addr}(c:Cls K C)(f:Str):W.plainGet K C f=true:=c.pg
structure jT(K:W.Frag)(C:Addr)(m:Str)(f:Addr):Prop where
 at_:W.findIn K (.ref C) m=some (some (.ref f))
 fn:W.isFn K (.ref f)=true
 kp:W.keepIn K (.ref f)=true
section
variable{X:Cx}{pins:List (Addr×Obj)}{σ:St}{H:Hp}{s:Shared}{a C dx:Addr}{fs:List (Str×V)}{f:Str}{v:V}{A:Around}{E:Value→Shared→Prop}
theorem vn{m:Str}{g:Addr}{pl:Sem Bool}{Q:Value×List Value→Shared→Prop}(I:Inv X pins σ H s)(e:H a=some (.ins C dx fs))(c:Cls X.K C)(k:jT X.K C m g)(l:fs.lookup m=none)
  (h:Q (.ref g,[.ref a]) s):wpAny (model X.prog X.w) A (getMethod (.ref a) m pl) Q E s:=by
 obtain⟨mA,O,r,_,_,_⟩:=DK I.hok e;have hn:mA m=none:=jj.none_of (by rw[← l];exact r m);exact Bi I.Qq O (c.get m) k.at_ k.fn hn h
theorem Inv.made(I:Inv X pins σ H s):Inv X pins σ (upd (upd H s.heap.objs.size (.own (s.heap.objs.size+1))) (s.heap.objs.size+1) (.ins C s.heap.objs.size []))
  { s with heap:=(s.heap.push W.emptyDict).push (W.instObj C s.heap.objs.size) }:=by
 have e1:(s.heap.push W.emptyDict).get? s.heap.objs.size=some W.emptyDict:=Heap.get?_push_size s.heap rfl
 have e2:((s.heap.push W.emptyDict).push (W.instObj C s.heap.objs.size)).get? (s.heap.objs.size+1)=some (W.instObj C s.heap.objs.size):=by
  have:=Heap.get?_push_size (s.heap.push W.emptyDict) (o:=W.instObj C s.heap.objs.size) rfl
  rwa [Heap.size_push]at this
 have e3:(s.heap.push W.emptyDict).Ns s.heap.objs.size (fun _=>none):=⟨W.emptyDict, #[],_,e1,rfl,(fun e he=>absurd he (by simp)),fun _=>rfl⟩
 have I1:=I.laid (a:=s.heap.objs.size) (o:=.own (s.heap.objs.size+1)) (h':=s.heap.push W.emptyDict) (t':=s.toks) (fun b u q=>Heap.get?_push_of_some _ q) (Nat.le_refl _) ⟨_,e1⟩;refine I1.laid (a:=s.heap.objs.size+1) (o:=.ins C s.heap.objs.size []) (t':=s.toks) (fun b u q=>Heap.get?_push_of_some _ q) (Nat.le_of_eq (Heap.size_push _ _)) ?_;have ne:s.heap.objs.size≠s.heap.objs.size+1:=Nat.ne_of_lt (Nat.lt_succ_self _);refine⟨by rw[aj ne,aK],Nat.zero_le _,ne,e2,fun _=>none,(Heap.Ns1.of_empty e3).at fun o q=>Heap.get?_push_of_some _ q,fun _=>True.intro,fun y hy=>absurd rfl hy⟩
end
structure dR(k:Nat)(A:Around):Prop where
 hd:A.handled=none
 dp:A.depth+3 * k+5<recursionLimit
 un:A.units+16 * k+200<cLine
 gd:A.guards=some []
theorem dR.deeper{k:Nat}{A:Around}(r:dR (k+1) A)(env:Env):dR k (A.deeper env):=
 ⟨r.hd,by have:=r.dp;show A.depth+1+3 * k+5<_;omega,by have:=r.un;show A.units+3+16 * k+200<_;omega,r.gd⟩
theorem dR.depth{k:Nat}{A:Around}(r:dR k A):A.depth<recursionLimit:=by have:=r.dp;omega
theorem dR.units{k:Nat}{A:Around}(r:dR k A):A.units+64<cLine:=by have:=r.un;omega
noncomputable def HZ:TA:=fun _ H Q=>Q [] H
noncomputable def Ig(ta:TE)(tr:TA):TA:=fun σ H Q=>ta σ H fun x H1=>tr σ H1 fun xs H2=>Q (x::xs) H2
section
variable{X:Cx}{e:Expr}{es:List Expr}{te:TE}{t:TA}{pos:Pos}
theorem GD:PA X [] HZ:=fun _ _ _ _ H Q I h=>Calls.spliced_nil ⟨[],H,I,.nil,h⟩
theorem Di(ha:PE X e te)(hr:PA X es t)(hs:sE0 X e es:=by rfl):PA X (e::es) (Ig te t):=by intro pos pins s σ H Q I h;rw[hs];show wpAny _ _ (spliced ((false,eval e X.env)::backTo pos (starEach es X.env))) _ _ s;refine Calls.spliced_cons (B_ (ha pins s σ H _ I h) ?_);rintro u s1 ⟨x,H1,I1,r1,q1⟩;exact B_ (hr pos pins s1 σ H1 _ I1 q1) (by rintro us s2 ⟨xs,H2,I2,r2,q2⟩;exact ⟨x::xs,H2,I2,.cons r1 r2,q2⟩)
def Kv(t:TA):TE:=fun σ H Q=>t σ H fun xs H1=>xs.length≤sizeLine∧∀p,H1 p=none→Q (.ref p) (upd H1 p (.tup xs))
def KA(t:TA):TE:=fun σ H Q=>t σ H fun xs H1=>xs.length≤sizeLine∧∀p,H1 p=none→Q (.ref p) (upd H1 p (.lst xs))
theorem Gu{x1}(h:PA X es t):PE X (.Tuple es x1 pos) (Kv t):=by intro pins s σ H Q I hq;refine wpAny_Tuple_spliced (B_ (h pos pins s σ H _ I hq) fun us s1 ⟨xs,H1,I1,r,z,q⟩=>⟨by rw[← r.length];exact z,?_⟩);have hf:H1 s1.heap.objs.size=none:=I1.hok.fresh (Nat.le_refl _);refine⟨.ref s1.heap.objs.size,upd H1 s1.heap.objs.size (.tup xs),I1.laid (t':=s1.toks) (fun b u e=>Heap.get?_push_of_some _ e) (Nat.le_refl _) ?_,rfl,q _ hf⟩;exact⟨z,us,r,⟨_,Heap.get?_push_size _ rfl,rfl,_,rfl⟩⟩
theorem As(h:PA X es t):PE X (.List es pos) (KA t):=by intro pins s σ H Q I hq;refine wpAny_List_spliced (B_ (h pos pins s σ H _ I hq) fun us s1 ⟨xs,H1,I1,r,z,q⟩=>⟨by rw[← r.length];exact z,?_⟩);have hf:H1 s1.heap.objs.size=none:=I1.hok.fresh (Nat.le_refl _);refine⟨.ref s1.heap.objs.size,upd H1 s1.heap.objs.size (.lst xs),I1.laid (t':=s1.toks) (fun b u e=>Heap.get?_push_of_some _ e) (Nat.le_refl _) ?_,rfl,q _ hf⟩;exact⟨z,us,0,r,Heap.get?_push_size _ rfl⟩
end
abbrev Sp:=List V→Hp→VK→XK→Prop
abbrev Ua:=List Env→Hp→Shared→XK→Value→Shared→Prop
structure Eo(P:Program)(w:World)(K:W.Frag)(mg:Str→Option Value)(base:Heap)(A:Around)(outer:List Env)(s:Shared)(H:Hp):Prop where
 frames:A.frames=some outer
 mod:Mod K mg base
 bs:∀b o,base.get? b=some o→s.heap.get? b=some o∧H b=none
 Vb:base.objs.size≤s.heap.objs.size
 QT:s.heap.FunFrames base outer
 Wa:∀b∈frs outer,H b=none
 hok:Oc P w H s.heap
 bare:AllBare s.gens
def CE(outer:List Env)(P:Program)(w:World)(H:Hp)(s:Shared)(Q:VK)(u:Value)(s':Shared):Prop:=
 ∃v H',s'.os=s.os∧AllBare s'.gens∧Un (frs outer) [] H H' s.heap s'.heap∧Oc P w H' s'.heap∧aX v u∧Q v H'
def CR(CX:Ua)(outer:List Env)(P:Program)(w:World)(H:Hp)(s:Shared)(Q:VK)(E:XK)(r:Result)(s':Shared):Prop:=
 match r with
 |.ok (.ret u)=>CE outer P w H s Q u s'
 |.ok _=>False
 |.error e=>CX outer H s E e s'
structure eD(P:Program)(w:World)(K:W.Frag)(mg:Str→Option Value)(base:Heap)(CX:Ua)(k:Nat)(f:Addr)(fd:FuncData)(ps:List Str)(sp:Sp):Prop where
 len:∀vs H Q E,sp vs H Q E→vs.length=ps.length
 run:∀(A:Around)(outer:List Env)(s:Shared)(H:Hp)(args:Args)(us:List Value)(vs:List V)(Q:VK)(E:XK),dR k A→Eo P w K mg base A outer s H→BindsTo s fd args (ps.zip us)→aR vs us→sp vs H Q E→
  codeAny (model P w) A (.call (.ref f) args) (CR CX outer P w H s Q E) s
theorem eD.imp{P:Program}{w:World}{K:W.Frag}{mg:Str→Option Value}{base:Heap}{CX:Ua}{k:Nat}{f:Addr}{fd:FuncData}{ps:List Str}{sp ZQ:Sp}(F:eD P w K mg base CX k f fd ps sp)
  (h:∀vs H Q E,ZQ vs H Q E→sp vs H Q E):eD P w K mg base CX k f fd ps ZQ:=
 ⟨fun vs H Q E q=>F.len vs H Q E (h _ _ _ _ q),fun A outer s H args us vs Q E hr he hb hv hs=>F.run A outer s H args us vs Q E hr he hb hv (h _ _ _ _ hs)⟩
section
variable{X:Cx}{pins:List (Addr×Obj)}{σ:St}{H:Hp}{s s':Shared}
theorem Inv.env0(I:Inv X pins σ H s):Eo X.prog X.w X.K X.mg X.base X.A X.stack s H:=
 ⟨I.ok.frames,I.ok.mod,I.bs,Nat.le_trans I.ok.Vb I.sz,I.stack,I.S7,I.hok,I.bare⟩
theorem Inv.after{Q:VK}{u:Value}(I:Inv X pins σ H s)(h:CE X.stack X.prog X.w H s Q u s'):EP X pins σ Q u s':=by obtain⟨v,H',os,bare,un,hok,r,q⟩:=h;obtain⟨hh,g,d,t,os'⟩:=s';obtain rfl:os'=s.os:=os;exact⟨v,H',I.call (h':=hh) (g':=g) (d':=d) (t':=t) (ch:=[]) un hok bare (fun b z=>absurd z (by simp)),r,q⟩
end
noncomputable def Eu(sp:Sp)(T6:List V)(E:XK)(t:TA):TE:=fun σ H Q=>t σ H fun vs H1=>sp (vs++T6) H1 Q E
def ga(K:W.Frag)(fd:FuncData)(ps:List Str)(ds:List Value):Prop:=
 ∀(s:Shared)(us:List Value),K.In s.heap→(us++ds).length=ps.length→BindsTo s fd ⟨us,[]⟩ (ps.zip (us++ds))
theorem ga.all{K:W.Frag}{fd:FuncData}{ps:List Str}(h:∀us:List Value,us.length=ps.length→bindArgs fd ⟨us,[]⟩=pure (ps.zip us)):ga K fd ps []:=fun s us _ hl=>by rw[List.append_nil]at hl ⊢;exact .of_eq (h us hl)
def rO(CX:Ua)(X:Cx)(E:XK):Prop:=∀(pins:List (Addr×Obj))(σ:St)(H:Hp)(s:Shared)(e:Value)(s':Shared),Inv X pins σ H s→CX X.stack H s E e s'→X.xe e s'
section
variable{X:Cx}{CX:Ua}{k:Nat}{f C:Addr}{fd:FuncData}{ps:List Str}{sp:Sp}{T6:List V}{ds:List Value}{E:XK}{x m:Str}{p pos apos:Pos}{e o:Expr}{es:List Expr}{ta:TE}{t:TA}
theorem uq{pins:List (Addr×Obj)}{σ:St}{H:Hp}{s:Shared}{Q:VK}{us:List Value}{vs:List V}(F:eD X.prog X.w X.K X.mg X.base CX k f fd ps sp)(hr:dR k X.A)(hb:ga X.K fd ps ds)(hd:aR T6 ds)(hx:rO CX X E)
  (I:Inv X pins σ H s) (r:aR vs us) (h:sp (vs++T6) H Q E):wpAny (model X.prog X.w) X.A (call (.ref f) us) (EP X pins σ Q) X.xe s:=by
 have r2:aR (vs++T6) (us++ds):=r.append hd;have hl:(us++ds).length=ps.length:=by rw[← r2.length];exact F.len _ _ _ _ h
 refine wpAny_call (codeAny_mono (F.run X.A X.stack s H ⟨us,[]⟩ (us++ds) (vs++T6) Q E hr I.env0 (hb s us I.Qq hl) r2 h) fun r s' hq=>?_)
 cases r with
 |error e=>exact hx pins σ H s e s' I hq
 |ok fl=>
  cases fl with
  |ret u=>exact I.after hq
  |next=>exact False.elim hq
  |brk=>exact False.elim hq
  |cont=>exact False.elim hq
theorem qN(F:eD X.prog X.w X.K X.mg X.base CX k f fd ps sp)(hr:dR k X.A)(hg:Gl X x)(hm:X.mg x=some (.ref f))(hk:W.keepIn X.K (.ref f)=true)(hb:ga X.K fd ps ds)(hd:aR T6 ds)(hx:rO CX X E)
  (ha:PA X (e::es) t) (Qh:nD0 x:=by decide)(he:sE0 X e es:=by rfl) (Mu:sP0 X es pos:=by rfl):
  PE X (.Call (.Name x p) (e::es) [] pos) (Eu sp T6 E t):=by
 intro pins s σ H Q I h;refine wpAny_Call_Name_kw (mW I hg hm ?_ Qh);refine W.callWith_K (h₀:=X.base) I.ok.mod.Yu hk (B_ (ha pos pins s σ H _ I h) fun us s1 ⟨vs,H1,I1,r,q⟩=>⟨I1.Qq,?_⟩) he Mu;exact uq F hr hb hd hx I1 r q
theorem AA(F:eD X.prog X.w X.K X.mg X.base CX k f fd ps sp)(hr:dR k X.A)(hg:Gl X x)(hm:X.mg x=some (.ref f))(hk:W.keepIn X.K (.ref f)=true)(hb:ga X.K fd ps ds)(hd:aR T6 ds)(hx:rO CX X E)
  (Qh:nD0 x:=by decide):PE X (.Call (.Name x p) [] [] pos) (Eu sp T6 E HZ):=by
 intro pins s σ H Q I h;refine wpAny_Call_Name_kw (mW I hg hm ?_ Qh);exact W.callWith_K0 I.Qq hk (uq (us:=[]) F hr hb hd hx I .nil h)
end
def PK(X:Cx)(kws:List Keyword)(t:TA):Prop:=
 ∀(pos:Pos)(pins:List (Addr×Obj))(s:Shared)(σ:St)(H:Hp)(Q:List V→Hp→Prop),Inv X pins σ H s→t σ H Q→wpAny (model X.prog X.w) X.A (evalAll ((backToKw pos (keywordEach kws X.env)).map (·.2))) (AP X pins σ Q) X.xe s
structure jd(N P:List Str)(sc:Scope):Prop where
 kind:sc.kind=.function
 co:sc.isCoroutine=false
 gen:sc.isGenerator=false
 nd:N.Nodup
 pre:N.take P.length=P
 par:∀x∈P,sc.names.lookup x=some .local∨sc.names.lookup x=some .cell
 Vn:∀y∈sc.names,y.2≠.free
theorem qt{kindOf:Str→Option NameKind}{x:Str}:∀{binds:List (Str×Value)}{m:Str→Option Value},(∀v,(x,v)∉binds)→bindL kindOf binds m x=m x
 |[],_,_=>rfl
 |(n,v)::r,m,h=>by
  unfold bindL;rw[qt fun w hw=>h w (List.mem_cons_of_mem _ hw)]
  split
  ·have:x≠n:=by rintro rfl;exact h v List.mem_cons_self
   simp[this]
  ·rfl
theorem qv{kindOf:Str→Option NameKind}{x:Str}:∀{binds:List (Str×Value)}{m:Str→Option Value},(∀v,(x,v)∉binds)→bindC kindOf binds m x=m x
 |[],_,_=>rfl
 |(n,v)::r,m,h=>by
  unfold bindC;rw[qv fun w hw=>h w (List.mem_cons_of_mem _ hw)]
  split
  ·rfl
  ·have:x≠n:=by rintro rfl;exact h v List.mem_cons_self
   simp[this]
theorem qu{kindOf:Str→Option NameKind}{x:Str}{v:Value}:∀{P:List Str}{vs:List Value}{i:Nat}{m:Str→Option Value},P.Nodup→P[i]? =some x→vs[i]? =some v→kindOf x=some .local→
  bindL kindOf (P.zip vs) m x=some v
 |[],_,_,_,_,h,_,_=>by simp at h
 |_::_,[],_,_,_,_,h,_=>by simp at h
 |p::P,w::vs,0,m,nd,h1,h2,hk=>by simp at h1 h2;subst h1;subst h2;show bindL kindOf ((p,w)::P.zip vs) m p=_;unfold bindL;rw[qt fun v hv=>(List.nodup_cons.mp nd).1 (List.of_mem_zip hv).1,if_pos hk];simp
 |p::P,w::vs,i+1,m,nd,h1,h2,hk=>by show bindL kindOf ((p,w)::P.zip vs) m x=_;unfold bindL;exact qu (i:=i) (List.nodup_cons.mp nd).2 (by simpa using h1) (by simpa using h2) hk
theorem qw{kindOf:Str→Option NameKind}{x:Str}{v:Value}:∀{P:List Str}{vs:List Value}{i:Nat}{m:Str→Option Value},P.Nodup→P[i]? =some x→vs[i]? =some v→kindOf x≠some .local→
  bindC kindOf (P.zip vs) m x=some v
 |[],_,_,_,_,h,_,_=>by simp at h
 |_::_,[],_,_,_,_,h,_=>by simp at h
 |p::P,w::vs,0,m,nd,h1,h2,hk=>by simp at h1 h2;subst h1;subst h2;show bindC kindOf ((p,w)::P.zip vs) m p=_;unfold bindC;rw[qv fun v hv=>(List.nodup_cons.mp nd).1 (List.of_mem_zip hv).1,if_neg hk];simp
 |p::P,w::vs,i+1,m,nd,h1,h2,hk=>by show bindC kindOf ((p,w)::P.zip vs) m x=_;unfold bindC;exact qw (i:=i) (List.nodup_cons.mp nd).2 (by simpa using h1) (by simpa using h2) hk
noncomputable def hZ(N:List Str)(vs:List V):St:=vs.map some++List.replicate (N.length - vs.length) none
noncomputable def oG(CX:Ua)(P:Program)(w:World)(K:W.Frag)(mg:Str→Option Value)(base:Heap)(N:List Str)(C_:Str)(scope:Scope)(f:Addr)(cd:Value)(A:Around)(outer:List Env)(s:Shared)(H:Hp)(E:XK):Cx where
 prog:=P
 w:=w
 K:=K
 mg:=mg
 base:=base
 A:=A.deeper (envOfC C_ scope s.heap.objs.size f cd)
 N:=N
 s₀:=s
 H₀:=H
 env:=envOfC C_ scope s.heap.objs.size f cd
 outer:=outer
 stack:=envOfC C_ scope s.heap.objs.size f cd::outer
 ex:=[]
 calm:=true
 fn:=fun _=>true
 pn:=[]
 xe:=fun e s'=>wpAny (model P w) (A.deeper (envOfC C_ scope s.heap.objs.size f cd)) (leaving (envOfC C_ scope s.heap.objs.size f cd) e) (fun _ Ym=>CX outer H s E e Ym) (fun e' Ym=>CX outer H s E e' Ym) s'
theorem tR{sc:Scope}{n:Nat}{x:Str}(h:sc.names.lookup x=some .cell):∃c,(cellsFrom n sc.names []).lookup x=some c:=by have q:=W.cellsFrom_some sc.names n [] (.inl h);exact Option.isSome_iff_exists.mp q
theorem yC{CX:Ua}{P:Program}{w:World}{K:W.Frag}{mg:Str→Option Value}{base:Heap}{N ps:List Str}{C_:Str}{scope:Scope}{f:Addr}{cd:Value}{A:Around}{outer:List Env}{s s1:Shared}{H:Hp}{E:XK}{us:List Value}{vs:List V}
  (S:jd N ps scope) (hd:A.handled=none) (e0:Eo P w K mg base A outer s H) (hl:vs.length=ps.length) (r:aR vs us)
  (x:InCallC s s.heap.objs.size (bindL (envOfC C_ scope s.heap.objs.size f cd).kindOf (ps.zip us) fun _=>none) (cellsFrom (s.heap.objs.size+1) scope.names []) (bindC (envOfC C_ scope s.heap.objs.size f cd).kindOf (ps.zip us) fun _=>none) s1):
  Inv (oG CX P w K mg base N C_ scope f cd A outer s H E) [] (hZ N vs) H s1:=by
 have Mu:ps.length≤N.length:=by have:=congrArg List.length S.pre;rw[List.length_take]at this;omega
 obtain⟨h1,tk,rfl,hk⟩:=x.done;have Ww:∀b:Addr,b∉(oG CX P w K mg base N C_ scope f cd A outer s H E).ex:=fun b z=>absurd (show b∈([]:List Addr)from z) (by simp)
 refine⟨⟨e0.mod,S.kind,rfl,rfl,Nat.le_refl _,fun y z c h1 h2=>?_,fun y hy=>?_,fun y c _ h=>?_,fun _=>hd,Around.frames_deeper e0.frames,.inr ⟨rfl,rfl⟩,fun b z=>absurd z (Ww b),e0.bs,e0.Vb,fun b _ _=>Ww b,fun b z=>absurd z (Ww b),e0.QT,e0.Wa⟩,
  rfl,e0.bare,Un.kept hk,⟨_,x.toInCall.ns,fun i y v h1 h2 h3=>?_⟩,fun y c h=>⟨_,x.cell y c h⟩,e0.hok.fresh (Nat.le_refl _),fun y c h=>?_,fun p hp=>absurd (show p∈([]:List (Addr×Obj))from hp) (by simp),e0.hok.kept hk,?_⟩
 ·exact name_of_addr x.apart (PySem.mem_of_lookup h1) (PySem.mem_of_lookup h2)
 ·have hy:scope.names.lookup y=some .cell∨scope.names.lookup y=some .free:=hy;rcases hy with hy|hy
  ·exact tR hy
  ·exact absurd rfl (S.Vn _ (PySem.mem_of_lookup hy))
 ·exact Nat.le_of_lt (x.above y c (PySem.mem_of_lookup h))
 ·have hi:i<vs.length:=by
   unfold hZ at h2
   by_cases hi:i<vs.length
   ·exact hi
   ·rw[List.getElem?_append_right (by simpa using hi)]at h2;rw[List.getElem?_replicate]at h2
    split at h2<;>cases h2
  have ha:vs[i]? =some v:=by
   unfold hZ at h2;rw[List.getElem?_append_left (by simpa using hi),List.getElem?_map]at h2
   cases e:vs[i]? with
   |none=>rw[e]at h2;cases h2
   |some a=>rw[e]at h2;cases h2;rfl
  obtain⟨u,hu,rv⟩:=r.get ha
  have hp:ps[i]? =some y:=by rw[← S.pre,List.getElem?_take_of_lt (by omega)];exact h1
  have Z6:ps.Nodup:=by rw[← S.pre];exact S.nd.sublist (List.take_sublist _ _)
  refine⟨u,rv,?_⟩;rcases S.par y (List.mem_of_getElem? hp)with k|k
  ·exact .inl ⟨k,qu Z6 hp hu k⟩
  ·obtain⟨c,e⟩:=tR (n:=s.heap.objs.size+1) k;refine .inr ⟨.inl k,c,e,?_⟩;have q:=x.cell y c e;rw[qw Z6 hp hu (by show scope.names.lookup y≠_;rw[k];decide)]at q;exact q
 ·exact e0.hok.fresh (Nat.le_of_lt (x.above y c (PySem.mem_of_lookup h)))
 ·unfold hZ;show _=N.length;rw[List.length_append,List.length_map,List.length_replicate];omega
theorem Jr{CX:Ua}{P:Program}{w:World}{K:W.Frag}{mg:Str→Option Value}{base:Heap}{k:Nat}{f:Addr}{name C_:Str}{params:Arguments}{body:List Stmt}{scope:Scope}{dV kV doc pm K8 ct oc:Value}{an od:Option Addr}
  {Ud:Array (Option Value)} {N ps:List Str} {sp:Sp} (lk:K.lookup f=some ⟨oc,od,.func (W.fnOf name C_ params body scope dV kV doc pm an K8 ct),Ud⟩) (T3:W.codeIn K K8 C_=true) (S:jd N ps scope)
  (len:∀vs H Q E,sp vs H Q E→vs.length=ps.length)
  (T4:∀(A:Around)(outer:List Env)(s:Shared)(H:Hp)(vs:List V)(Q:VK)(E:XK),dR k (A.deeper (envOfC C_ scope s.heap.objs.size f K8))→sp vs H Q E→
   ∃t,RK (oG CX P w K mg base N C_ scope f K8 A outer s H E) body t∧t { nx:=fun _ H'=>Q .non H',rt:=Q } (hZ N vs) H):
  eD P w K mg base CX (k+1) f (W.fnOf name C_ params body scope dV kV doc pm an K8 ct) ps sp:=by
 refine⟨len,fun A outer s H args us vs Q E hr e0 hb r U7=>?_⟩;have hl:=len _ _ _ _ U7;have KX:K.In s.heap:=e0.mod.Yu.keeps fun b o e=>(e0.bs b o e).1;have lim:s.heap.NoLimit:=e0.mod.nolimit.keeps fun b o e=>(e0.bs b o e).1
 have WY:∀y∈ps.zip us,scope.names.lookup y.1=some .local∨(scope.names.lookup y.1=some .cell∧((cellsFrom (s.heap.objs.size+1) scope.names []).lookup y.1).isSome=true):=fun⟨n,v⟩ hy=>by
  rcases S.par n (List.of_mem_zip hy).1 with q|q
  ·exact .inl q
  ·exact .inr ⟨q,W.cellsFrom_some _ _ _ (.inl q)⟩
 refine codeAny_call_function hr.depth (KX _ _ lk) rfl S.co S.gen rfl (W.codeRec_of KX T3) (hb _ _ _ _ ?_);refine wpAny_newFunctionEnv_cells S.kind WY fun env he s1 x=>?_;subst he;refine⟨lim.keeps x.toInCall.keep,codeAny_func ?_⟩;obtain⟨t,ht,hq⟩:=T4 A outer s H vs Q E (hr.deeper _) U7;have I:Inv (oG CX P w K mg base N C_ scope f K8 A outer s H E) [] (hZ N vs) H s1:=yC S hr.hd e0 hl r x;refine wpAny_mono (ht [] s1 (hZ N vs) H _ I hq) (fun fl s' hs=>?_) fun e s' hs=>hs
 have fin:∀{σ':St}{H':Hp}{v:V}{u:Value},Inv (oG CX P w K mg base N C_ scope f K8 A outer s H E) [] σ' H' s'→aX v u→Q v H'→CE outer P w H s Q u s':=
  fun{σ' H' v u} J rv q=>⟨v,H',J.os,J.bare,J.base,J.hok,rv,q⟩
 cases fl with
 |ret u=>obtain⟨v,σ',H',J,rv,q⟩:=hs;exact fin J rv q
 |next=>obtain⟨σ',H',J,q⟩:=hs;exact fin (v:=V.non) (u:=Value.none) J rfl q
 |brk=>obtain⟨_,_,_,q⟩:=hs;exact False.elim q
 |cont=>obtain⟨_,_,_,q⟩:=hs;exact False.elim q
section
variable{X:Cx}{x:Str}{p pos:Pos}{e:Expr}{es:List Expr}{t:TA}{id T:String}{r:List V→Hp→VK→Prop}
noncomputable def Yl(r:List V→Hp→VK→Prop)(t:TA):TE:=fun σ H Q=>t σ H fun vs H1=>r vs H1 Q
theorem Az(hc:cY X (.builtin id) r)(hg:Gl X x)(hm:X.mg x=none)(hv:bootBuiltins x=some (.builtin id))(ha:PA X (e::es) t)(hn:x≠"__name__":=by decide)(Qh:nD0 x:=by decide)
  (he:sE0 X e es:=by rfl) (Mu:sP0 X es pos:=by rfl):PE X (.Call (.Name x p) (e::es) [] pos) (Yl r t):=by
 intro pins s σ H Q I h;refine wpAny_Call_Name_kw (il I hg hm hv ?_ hn Qh);exact PyProof.Rows.callWith_builtin1 (B_ (ha pos pins s σ H _ I h) (by rintro us s1 ⟨vs,H1,I1,r1,q1⟩;exact hc pins s1 σ H1 vs us Q I1 r1 q1)) he Mu
theorem yh(hc:cY X (.type T) r)(hg:Gl X x)(hm:X.mg x=none)(hv:bootBuiltins x=some (.type T))(ha:PA X (e::es) t)(hn:x≠"__name__":=by decide)(Qh:nD0 x:=by decide)
  (he:sE0 X e es:=by rfl) (Mu:sP0 X es pos:=by rfl):PE X (.Call (.Name x p) (e::es) [] pos) (Yl r t):=by
 intro pins s σ H Q I h;refine wpAny_Call_Name_kw (il I hg hm hv ?_ hn Qh);exact PyProof.Rows.callWith_type1 (B_ (ha pos pins s σ H _ I h) (by rintro us s1 ⟨vs,H1,I1,r1,q1⟩;exact hc pins s1 σ H1 vs us Q I1 r1 q1)) he Mu
end
end L2
namespace HT
open PySem PyProof.Rows
section
variable{prog:Program}{w:World}{A:Around}{E:Value→Shared→Prop}{s:Shared}
theorem Uz{t b:Addr}{vs ws:List Value}{Q:Value→Shared→Prop}(ht:IsTup s.heap t vs.toArray)(hb:IsTup s.heap b ws.toArray)(hv:vs≠ [])
  (h1:ws= []→Q (.ref t) s) (h2:ws≠ []→Q (.ref s.heap.objs.size) { s with heap:=s.heap.push { cls:=.type "tuple",data:=.seq (vs++ws).toArray } })
  (hsz:vs.length+ws.length≤sizeLine):wpAny (model prog w) A (binaryOp .Add (.ref t) (.ref b)) Q E s:=by
 obtain⟨⟨cls,dd,data,sl⟩,ho,hc,n,hd⟩:=id ht;obtain⟨⟨ab0,VH,data2,V1⟩,V7,hc2,n2,hd2⟩:=id hb;simp only at hc hd hc2 hd2;subst hc hd hc2 hd2;have e:vs.toArray++ws.toArray=(vs++ws).toArray:=by simp
 by_cases hw:ws= []
 ·exact concat_meets ⟨_,ho,rfl⟩ ⟨_,V7,rfl⟩ noFill_tuple_add seq_tuple_add PySem.F.slot_tuple_add PySem.F.entry_tuple_add (PySem.F.args_tuple_add_2 _ _)
   (tuple_addW1 t b vs.toArray ws.toArray n n2 dd VH sl V1 (by simpa using hv) (by simp[hw])) ⟨ho,V7,h1 hw⟩
 ·refine concat_meets ⟨_,ho,rfl⟩ ⟨_,V7,rfl⟩ noFill_tuple_add seq_tuple_add PySem.F.slot_tuple_add PySem.F.entry_tuple_add (PySem.F.args_tuple_add_2 _ _)
   (tuple_addW2 t b vs.toArray ws.toArray n n2 dd VH sl V1 (by simpa using hv) (by simpa using hw) (by rw[List.size_toArray,List.size_toArray];exact hsz)) ⟨ho,V7,?_⟩
  rw[e];exact h2 hw
noncomputable def G3(n d:Nat):Option Int→Nat
 |none=>d
 |some v=>if v<0 then(v+(n:Int)).toNat else min v.toNat n
theorem Qu(n d k:Nat):G3 n d (some (k:Int))=min k n:=by show(if(k:Int)<0 then((k:Int)+(n:Int)).toNat else min (k:Int).toNat n)=min k n;rw[if_neg (by omega),Int.toNat_natCast]
theorem Sy(n d:Nat)(hd:d≤n)(o:Option Int):G3 n d o≤n:=by
 cases o with
 |none=>exact hd
 |some v=>
  show(if v<0 then(v+(n:Int)).toNat else min v.toNat n)≤n
  by_cases hv:v<0
  ·rw[if_pos hv];omega
  ·rw[if_neg hv];exact Nat.min_le_right _ _
theorem xk(v:Int)(n d:Nat):(if v<0 then max (v+(n:Int)) 0 else min v (n:Int))=((G3 n d (some v):Nat):Int):=by
 show(if v<0 then max (v+(n:Int)) 0 else min v (n:Int))=(((if v<0 then(v+(n:Int)).toNat else min v.toNat n):Nat):Int)
 by_cases hv:v<0
 ·simp only[if_pos hv];omega
 ·simp only[if_neg hv];omega
theorem vO(lo hi:Option Int)(n:Nat):Builtin.Slice.sliceAdjust lo hi 1 (n:Int)=(((G3 n 0 lo:Nat):Int),((G3 n n hi:Nat):Int)):=by
 have h1:¬ ((1:Int)<0):=by omega
 unfold Builtin.Slice.sliceAdjust;simp only[h1,if_false];refine Prod.ext ?_ ?_
 ·cases lo with
  |none=>rfl
  |some v=>exact xk v n 0
 ·cases hi with
  |none=>rfl
  |some v=>exact xk v n n
theorem uE(i j:Nat):Builtin.Slice.slicePlaces (i:Int) (j:Int) 1=j - i:=by
 unfold Builtin.Slice.slicePlaces;have h1:(1:Int)>0:=by omega
 simp only[h1,if_true,Int.ediv_one]
 split<;>omega
theorem nE{v:Value}{o:Option Int}{Q:Option Int→Shared→Prop}(p:IsPart v o)(h:Q o s):wpAny (model prog w) A (Builtin.Slice.slicePartIndex v) Q E s:=by
 cases p with
 |none=>exact slicePart_none h
 |int i t=>exact slicePart_int h
theorem iC{sl:Addr}{vl vu:Value}{lo hi:Option Int}{n:Nat}{Q:Int×Int×Nat→Shared→Prop}(hs:s.heap.IsSliceOf sl vl vu .none)(pl:IsPart vl lo)(pu:IsPart vu hi)
  (h:Q (((G3 n 0 lo:Nat):Int),1,G3 n n hi - G3 n 0 lo) s):wpAny (model prog w) A (Builtin.Slice.sliceApplied (.ref sl) (pure (n:Int))) Q E s:=by
 obtain⟨os,Uw,XF,W2⟩:=id hs;unfold Builtin.Slice.sliceApplied Builtin.Slice.sliceFields;refine wpAny_bind (wpAny_bind (wpAny_field Uw W2 (x:=vl) rfl (wpAny_bind (wpAny_field Uw W2 (x:=vu) rfl (wpAny_bind (wpAny_field Uw W2 (x:=.none) rfl (wpAny_pure ?_)))))));refine wpAny_bind (slicePart_none ?_);show wpAny _ _ (if((1:Int)==0)=true then _ else _) _ _ s;rw[if_neg (by decide)];refine wpAny_bind (nE pl (wpAny_bind (nE pu (wpAny_bind (wpAny_pure ?_)))));show wpAny _ _ (match Builtin.Slice.sliceAdjust lo hi 1 (n:Int)with|(lo,hi)=>pure (lo,(1:Int),Builtin.Slice.slicePlaces lo hi 1)) _ _ s;rw[vO lo hi n];show wpAny _ _ (pure (((G3 n 0 lo:Nat):Int),(1:Int),Builtin.Slice.slicePlaces ((G3 n 0 lo:Nat):Int) ((G3 n n hi:Nat):Int) 1)) _ _ s;rw[uE];exact wpAny_pure h
theorem An(xs:Array Value)(i k:Nat):((List.range k).filterMap fun(m:Nat)=>xs[((i:Int)+(m:Int) * 1).toNat]?).toArray=((xs.toList.drop i).take k).toArray:=by
 have e:(fun(m:Nat)=>xs[((i:Int)+(m:Int) * 1).toNat]?)=fun m=>xs[i+m]? :=by
  funext m
  have:((i:Int)+(m:Int) * 1).toNat=i+m:=by omega
  rw[this]
 rw[e];have:=pick_run xs i k;rw[List.filterMap_map]at this;have e2:((fun x=>xs[x]?)∘fun x=>i+x)=fun m=>xs[i+m]? :=rfl;rw[e2]at this;rw[this]
theorem Pu{t sl:Addr}{items:Array Value}{vl vu:Value}{lo hi:Option Int}{Q:Value→Shared→Prop}(ht:IsTup s.heap t items)(hs:s.heap.IsSliceOf sl vl vu .none)(pl:IsPart vl lo)(pu:IsPart vu hi)
  (hw:¬ (G3 items.size 0 lo=0∧G3 items.size items.size hi=items.size))
  (h:Q (.ref s.heap.objs.size) { s with heap:=s.heap.push { cls:=.type "tuple",data:=.seq ((items.toList.drop (G3 items.size 0 lo)).take (G3 items.size items.size hi - G3 items.size 0 lo)).toArray } })
  (hsz:items.size≤sizeLine):wpAny (model prog w) A (getItem (.ref t) (.ref sl)) Q E s:=by
 have Td:sizeOk (.seq ((items.toList.drop (G3 items.size 0 lo)).take (G3 items.size items.size hi - G3 items.size 0 lo)).toArray):=by show((items.toList.drop (G3 items.size 0 lo)).take (G3 items.size items.size hi - G3 items.size 0 lo)).toArray.size≤sizeLine;rw[List.size_toArray,List.length_take,List.length_drop,Array.length_toList];omega
 have hj:G3 items.size items.size hi≤items.size:=Sy _ _ (Nat.le_refl _) hi;obtain⟨os,Uw,XF,W2⟩:=id hs;have Y5:s.TypeIs (.ref sl) "slice":=⟨os,Uw,XF⟩
 unfold getItem
 try with_reducible refine wpAny_holding ?_
 first|refine wpAny_bind (wpAny_pure ?_)|skip
 refine wpAny_bind (wpAny_sequenceKey ht.typeIs (by decide) ?_)
 refine wpAny_bind (wpAny_callSpecial?_slot (name:=Str.ofString "__getitem__") ht.typeIs PyProof.Rows.slot_tuple_getitem
  (wpAny_call_entry PyProof.Rows.slot_tuple_getitem ht.typeIs entry_tuple_getitem ?_ (args_tuple_getitem _ _)))
 show wpAny _ _ (Builtin.Tuple.tupleItemsOf (.ref t) >>= _) _ _ s;refine wpAny_bind (tupleItemsOf_ ht ?_);refine wpAny_bind (wpAny_typeOf Y5 ?_);rw[if_pos (by decide)];refine wpAny_bind (iC hs pl pu ?_)
 have hno:¬ ((((G3 items.size 0 lo:Nat):Int)==0&&(1:Int)==1&&(G3 items.size items.size hi - G3 items.size 0 lo)==items.size)=true):=by intro q;rw[Bool.and_eq_true,Bool.and_eq_true]at q;have q1:((G3 items.size 0 lo:Nat):Int)=0:=eq_of_beq q.1.1;have q2:G3 items.size items.size hi - G3 items.size 0 lo=items.size:=eq_of_beq q.2;exact hw ⟨by omega,by omega⟩
 show wpAny _ _ (if(((G3 items.size 0 lo:Nat):Int)==0&&(1:Int)==1&&(G3 items.size items.size hi - G3 items.size 0 lo)==items.size)=true then _ else _) _ _ s;rw[if_neg hno,An]
 first
  |exact wpAny_bind (m:=Builtin.Tuple.tupleExact _) (wpAny_newObj_type (wpAny_pure ⟨_,rfl,wpAny_pure h⟩) Td)
  |exact wpAny_bind (m:=Builtin.Tuple.tupleExact _) (wpAny_newObj_type (wpAny_bind (wpAny_pure (wpAny_pure ⟨_,rfl,wpAny_pure h⟩))) Td)
  |exact wpAny_bind (wpAny_bind (m:=Builtin.Tuple.tupleExact _) (wpAny_newObj_type (wpAny_pure (wpAny_pure ⟨_,rfl,wpAny_pure h⟩)) Td))
  |exact wpAny_bind (wpAny_bind (m:=Builtin.Tuple.tupleExact _) (wpAny_newObj_type (wpAny_pure ⟨_,rfl,wpAny_pure h⟩) Td))
end
end HT
namespace L2
open PySem PySem.Spec PyProof.Rows
abbrev TO:=St→Hp→(Option Int→Hp→Prop)→Prop
def PO(X:Cx)(e:Option Expr)(t:TO):Prop:=
 ∀(pins:List (Addr×Obj))(s:Shared)(σ:St)(H:Hp)(Q:Option Int→Hp→Prop),Inv X pins σ H s→t σ H Q→
  wpAny (model X.prog X.w) X.A (evalPart e X.env) (fun u s'=>∃o H',Inv X pins σ H' s'∧IsPart u o∧Q o H') X.xe s
noncomputable def BW:TO:=fun _ H Q=>Q none H
noncomputable def HX(t:TE):TO:=fun σ H Q=>t σ H fun x H1=>∃i,x=.int i∧Q (some i) H1
section
variable{X:Cx}{e:Expr}{te:TE}{lo hi:Option Expr}{tl th:TO}{pos p2:Pos}
theorem CY:PO X none BW:=by intro pins s σ H Q I h;rw[evalPart_none];exact wpAny_pure ⟨none,H,I,.none,h⟩
theorem CW(h:PE X e te):PO X (some e) (HX te):=by intro pins s σ H Q I hw;rw[evalPart_some];refine B_ (h pins s σ H _ I hw) ?_;rintro u s1 ⟨x,H1,I1,r1,q1⟩;obtain⟨i,rfl,q⟩:=q1;obtain⟨t,rfl⟩:=r1;exact⟨some i,H1,I1,.int i t,q⟩
def Tz(X:Cx)(r:V→Option Int→Option Int→Hp→VK→Prop):Prop:=
 ∀(pins:List (Addr×Obj))(s:Shared)(σ:St)(H:Hp)(x:V)(v vl vu:Value)(lo hi:Option Int)(sl:Addr)(Q:VK),Inv X pins σ H s→aX x v→s.heap.IsSliceOf sl vl vu .none→IsPart vl lo→IsPart vu hi→r x lo hi H Q→
  ∃T id,typeLookup (.type T) "__getitem__"=pure (some (.builtin id))∧s.TypeIs v T∧wpAny (model X.prog X.w) X.A (getItem v (.ref sl)) (EP X pins σ Q) X.xe s
theorem Tz.or{r r':V→Option Int→Option Int→Hp→VK→Prop}(h:Tz X r)(h':Tz X r'):Tz X (fun x lo hi H Q=>r x lo hi H Q∨r' x lo hi H Q):=by
 intro pins s σ H x v vl vu lo hi sl Q I rx hs pl pu q;rcases q with q|q
 ·exact h pins s σ H x v vl vu lo hi sl Q I rx hs pl pu q
 ·exact h' pins s σ H x v vl vu lo hi sl Q I rx hs pl pu q
noncomputable def tSl(r:V→Option Int→Option Int→Hp→VK→Prop)(te:TE)(tl th:TO):TE:=fun σ H Q=>te σ H fun x H1=>tl σ H1 fun l H2=>th σ H2 fun u H3=>r x l u H3 Q
theorem Ar{r:V→Option Int→Option Int→Hp→VK→Prop}(hr:Tz X r)(he:PE X e te)(hl:PO X lo tl)(hu:PO X hi th):PE X (.Subscript e (.Slice lo hi none p2) pos) (tSl r te tl th):=by intro pins s σ H Q I h;refine Subscript_ (B_ (he pins s σ H _ I h) ?_);rintro v s1 ⟨x,H1,I1,r1,q1⟩;refine wpAny_Slice (B_ (hl pins s1 σ H1 _ I1 q1) fun vl s2 ⟨l,H2,I2,pl,q2⟩=>B_ (hu pins s2 σ H2 _ I2 q2) ?_);rintro vu s3 ⟨u,H3,I3,pu,q3⟩;rw[evalPart_none];refine wpAny_pure ?_;have I4:Inv X pins σ H3 { s3 with heap:=s3.heap.push { cls:=.type "slice",data:=.fields #[vl,vu,.none] } }:=I3.kept (t':=s3.toks) fun b ob q=>Heap.get?_push_of_some _ q;obtain⟨T,id,hT,ht,hg⟩:=hr pins { s3 with heap:=s3.heap.push { cls:=.type "slice",data:=.fields #[vl,vu,.none] } } σ H3 x v vl vu l u s3.heap.objs.size Q I4 r1 (Heap.IsSliceOf.new ..) pl pu q3;show wpAny (model X.prog X.w) X.A (subscriptTail e (.Slice lo hi none p2) v (.ref s3.heap.objs.size)) (EP X pins σ Q) X.xe { s3 with heap:=s3.heap.push { cls:=.type "slice",data:=.fields #[vl,vu,.none] } };exact tail_any (ops:=[.ref s3.heap.objs.size,v]) ht hT hg (by with_unfolding_all rfl)
def tN(xs:List V)(lo hi:Option Int):List V:=(xs.drop (HT.G3 xs.length 0 lo)).take (HT.G3 xs.length xs.length hi - HT.G3 xs.length 0 lo)
theorem mI(xs:List V)(lo hi:Option Int):(tN xs lo hi).length≤xs.length:=by unfold tN;rw[List.length_take,List.length_drop];omega
def IA(K:W.Frag):V→Option Int→Option Int→Hp→VK→Prop:=fun x lo hi H Q=>∃a xs,x=.ref a∧Nf K H a xs∧
 ¬ (HT.G3 xs.length 0 lo=0∧HT.G3 xs.length xs.length hi=xs.length)∧∀p,H p=none→Q (.ref p) (upd H p (.tup (tN xs lo hi)))
theorem Fk:Tz X (IA X.K):=by
 intro pins s σ H x v vl vu lo hi sl Q I rx hs pl pu h;obtain⟨a,xs,rfl,hx,hw,q⟩:=h
 cases rx
 obtain⟨its,r,ht,hz⟩:=I.tuple hx;have E_:its.toArray.size=xs.length:=by rw[List.size_toArray];exact r.length.symm
 refine⟨"tuple",_,PyProof.Rows.slot_tuple_getitem.lookup,ht.typeIs,?_⟩;refine HT.Pu ht hs pl pu (by rw[E_];exact hw) ?_ (by rw[E_];exact hz);rw[E_];refine⟨.ref s.heap.objs.size,_,I.laid (t':=s.toks) (o:=.tup (tN xs lo hi)) (fun b ob q=>Heap.get?_push_of_some _ q) (Nat.le_refl _) ?_,rfl,q _ (I.hok.fresh (Nat.le_refl _))⟩;exact⟨Nat.le_trans (mI xs lo hi) hz,_,(r.drop (HT.G3 xs.length 0 lo)).take (HT.G3 xs.length xs.length hi - HT.G3 xs.length 0 lo),IsTup.new _ _⟩
def ED(K:W.Frag):R2:=fun x y H Q=>∃a b xs ys,x=.ref a∧y=.ref b∧Nf K H a xs∧Nf K H b ys∧xs≠ []∧xs.length+ys.length≤sizeLine∧
 (ys= []→Q (.ref a) H)∧(ys≠ []→∀p,H p=none→Q (.ref p) (upd H p (.tup (xs++ys))))
theorem aR.Qw{xs:List V}{us:List Value}(r:aR xs us):us= []↔xs= []:=by
 cases r with
 |nil=>simp
 |cons _ _=>simp
theorem Do:Ng X (binaryOp .Add) (ED X.K):=by
 intro pins s σ H x y v u Q I rx ry h;obtain⟨a,b,xs,ys,rfl,rfl,ha,hb,hx,hz,q1,q2⟩:=h
 cases rx
 cases ry
 obtain⟨its,r1,p1,_⟩:=I.tuple ha;obtain⟨Ut,r2,p2,_⟩:=I.tuple hb;refine HT.Uz p1 p2 (fun z=>hx (r1.Qw.mp z)) (fun z=>⟨.ref a,H,I,rfl,q1 (r2.Qw.mp z)⟩) (fun z=>?_) (by rw[← r1.length,← r2.length];exact hz);refine⟨.ref s.heap.objs.size,_,I.laid (t':=s.toks) (o:=.tup (xs++ys)) (fun b ob q=>Heap.get?_push_of_some _ q) (Nat.le_refl _) ?_,rfl,q2 (fun w=>z (r2.Qw.mpr w)) _ (I.hok.fresh (Nat.le_refl _))⟩;exact⟨by rw[List.length_append];exact hz,_,r1.append r2,IsTup.new _ _⟩
end
noncomputable def SM(n:Nat)(i:Int):Option Nat:=if 0≤i then(if i<n then some i.toNat else none)else if -(n:Int)≤i then some (i+n).toNat else none
def m_{α:Type}(xs:List α)(i:Int):Option α:=(SM xs.length i).bind fun j=>xs[j]?
theorem wO{n:Nat}{i:Int}{j:Nat}(h:SM n i=some j):seqIndex? i n=some j∧j<n∧ -(n:Int)≤i∧i<n:=by
 unfold SM at h
 by_cases h0:0≤i
 ·rw[if_pos h0]at h
  by_cases h1:i<n
  ·rw[if_pos h1]at h;have e:i.toNat=j:=Option.some.inj h;exact⟨by rw[seqIndex_of h0 h1,e],by omega,by omega,h1⟩
  ·rw[if_neg h1]at h;cases h
 ·rw[if_neg h0]at h
  by_cases h1: -(n:Int)≤i
  ·rw[if_pos h1]at h;have e:(i+n).toNat=j:=Option.some.inj h;exact⟨by rw[seqIndex_neg (by omega) h1,e],by omega,h1,by omega⟩
  ·rw[if_neg h1]at h;cases h
theorem rL{α:Type}{xs:List α}{i:Int}{v:α}(h:m_ xs i=some v):∃j,seqIndex? i xs.length=some j∧xs[j]? =some v∧j<xs.length∧ -(xs.length:Int)≤i∧i<xs.length:=by
 unfold m_ at h
 cases e:SM xs.length i with
 |none=>rw[e]at h;cases h
 |some j=>rw[e]at h;obtain⟨h1,h2,h3,h4⟩:=wO e;exact⟨j,h1,h,h2,h3,h4⟩
theorem Eh{α:Type}{xs:List α}{j:Nat}{v:α}(h:xs[j]? =some v):m_ xs (j:Int)=some v:=by
 have hj:j<xs.length:=(List.getElem?_eq_some_iff.mp h).1
 have e:SM xs.length (j:Int)=some j:=by unfold SM;rw[if_pos (by omega),if_pos (by omega)];simp
 unfold m_;rw[e];exact h
theorem tW{α:Type}(xs:List α)(v:α):m_ (xs++ [v]) (-1)=some v:=by
 have hl:(xs++ [v]).length=xs.length+1:=by simp
 have e:SM (xs++ [v]).length (-1)=some xs.length:=by
  unfold SM;rw[hl,if_neg (by decide),if_pos (by omega)]
  congr 1
  omega
 unfold m_;rw[e];show(xs++ [v])[xs.length]? =some v;simp
def El(b:Expr):Prop:=∀o i,subscripted b false o i=operate [o,i] (getItem o i)
def T8(X:Cx)(r:R2):Prop:=
 ∀(value slice:Expr)(pins:List (Addr×Obj))(s:Shared)(σ:St)(H:Hp)(x y:V)(v u:Value)(Q:VK),Inv X pins σ H s→aX x v→aX y u→r x y H Q→
  subscripted slice false v u=operate [v,u] (getItem v u)→wpAny (model X.prog X.w) X.A (subscriptTail value slice v u) (EP X pins σ Q) X.xe s
def VP(X:Cx)(id:String)(r:V→List V→Hp→VK→Prop):Prop:=
 ∀(pins:List (Addr×Obj))(s:Shared)(σ:St)(H:Hp)(x:V)(xs:List V)(v:Value)(us:List Value)(Q:VK),Inv X pins σ H s→aX x v→aR xs us→r x xs H Q→
  wpAny (model X.prog X.w) X.A (call (.builtin id) (v::us)) (EP X pins σ Q) X.xe s
section
variable{X:Cx}{a b:Expr}{ta tb:TE}{pos:Pos}
theorem T8.or{r r':R2}(h:T8 X r)(h':T8 X r'):T8 X (fun x y H Q=>r x y H Q∨r' x y H Q):=by
 intro value slice pins s σ H x y v u Q I rx ry q hs;rcases q with q|q
 ·exact h value slice pins s σ H x y v u Q I rx ry q hs
 ·exact h' value slice pins s σ H x y v u Q I rx ry q hs
theorem IS{r:R2}(hr:T8 X r)(ha:PE X a ta)(hb:PE X b tb)(hs:El b):PE X (.Subscript a b pos) (Wh r ta tb):=by intro pins s σ H Q I h;exact Subscript_ (Hu ha hb I h fun v u s2 x y H2 I2 rx ry q=>hr a b pins s2 σ H2 x y v u Q I2 rx ry q (hs _ _))
def II(K:W.Frag):R2:=fun x y H Q=>∃p xs i v,x=.ref p∧y=.int i∧Mq K H p xs∧m_ xs i=some v∧Q v H
def IG(K:W.Frag):R2:=fun x y H Q=>∃p xs i v,x=.ref p∧y=.int i∧Nf K H p xs∧m_ xs i=some v∧Q v H
def IH:R2:=fun x y H Q=>∃z i c,x=.str z∧y=.int i∧z.length≤sizeLine∧m_ z.cps.toList i=some c∧Q (.str ⟨#[c]⟩) H
theorem DG:T8 X (II X.K):=by
 intro value slice pins s σ H x y v u Q I rx ry h hs;obtain⟨p,xs,i,z,rfl,rfl,hq,he,q⟩:=h
 cases rx
 obtain⟨t,rfl⟩:=ry;obtain⟨its,r,pl,hz⟩:=I.list hq;obtain⟨j,h1,h2,h3,h4,h5⟩:=rL he;obtain⟨w,ew,Rh⟩:=r.get h2;have hl:=r.length;have hn:=kz;have fin:EP X pins σ Q w s:=⟨z,H,I,Rh,q⟩
 by_cases h0:0≤i
 ·have hj:i.toNat=j:=by rw[seqIndex_of h0 h5]at h1;exact Option.some.inj h1
  exact item_listR pl.isList h0 (by omega) (by rw[hj];simpa using ew) fin hs
 ·have hj:(i+(its.toArray.size:Int)).toNat=j:=by rw[seqIndex_neg (by omega) h4]at h1;rw[List.size_toArray,← hl];exact Option.some.inj h1
  exact subscriptTail_builtinR (x:=w) pl.isList.typeIs slot_list_getitem.lookup
   (wpAny_getItem_list_neg (Q:=fun r s'=>r=w∧EP X pins σ Q r s') pl.isList (by omega) (by rw[List.size_toArray]<;>omega) (by omega) (by rw[hj];simpa using ew) ⟨rfl,fin⟩) hs
theorem Hc:T8 X (IG X.K):=by
 intro value slice pins s σ H x y v u Q I rx ry h hs;obtain⟨p,xs,i,z,rfl,rfl,hq,he,q⟩:=h
 cases rx
 obtain⟨t,rfl⟩:=ry;obtain⟨its,r,pl,hz⟩:=I.tuple hq;obtain⟨j,h1,h2,h3,h4,h5⟩:=rL he;obtain⟨w,ew,Rh⟩:=r.get h2;have hl:=r.length;have hn:=kz;have fin:EP X pins σ Q w s:=⟨z,H,I,Rh,q⟩
 exact subscriptTail_builtinR (x:=w) pl.typeIs slot_tuple_getitem.lookup
  (getItem_tuple (j:=j) (Q:=fun r s'=>r=w∧EP X pins σ Q r s') pl (by omega) (by omega) (by rw[List.size_toArray,← hl];exact h1) (by simpa using ew) ⟨rfl,fin⟩) hs
theorem Hd:T8 X IH:=by
 intro value slice pins s σ H x y v u Q I rx ry h hs;obtain⟨z,i,c,rfl,rfl,hz,he,q⟩:=h;obtain⟨t,rfl⟩:=rx;obtain⟨t',rfl⟩:=ry;obtain⟨j,h1,h2,h3,h4,h5⟩:=rL he;have hl:z.cps.toList.length=z.length:=by simp[Str.length]
 rw[hl]at h1 h4 h5;have hn:=kz
 exact tail_any (typeIs_str s z t) slot_str_getitem.lookup (getItem_str (c:=c) (by have e1:decide (i< -(2 ^ 63:Int))=false:=decide_eq_false (by omega);have e2:decide (i≥2 ^ 63)=false:=decide_eq_false (by omega);rw[e1,e2,Bool.or_false]) (by rw[h1];simpa using h2) ⟨.str ⟨#[c]⟩,H,I.tok _,⟨_,rfl⟩,q⟩) hs
def ZS(K:W.Frag):R2:=fun x y H Q=>II K x y H Q∨IG K x y H Q∨IH x y H Q
theorem He:T8 X (ZS X.K):=DG.or (Hc.or Hd)
theorem uV(its:List Value)(n j:Nat)(u:Value):Obj.mapSeq (·.setIfInBounds j u) { cls:=.type "list",data:=.seq its.toArray n }={ cls:=.type "list",data:=.seq (its.set j u).toArray n }:=by simp[Obj.mapSeq]
theorem Inv.lst{pins:List (Addr×Obj)}{σ:St}{H:Hp}{s:Shared}{p:Addr}{xs:List V}(I:Inv X pins σ H s)(h:H p=some (.lst xs)):
  ∃(its:List Value)(n:Nat),aR xs its∧s.heap.get? p=some { cls:=.type "list",data:=.seq its.toArray n }∧xs.length≤sizeLine:=by
 obtain⟨z,its,n,r,e⟩:=I.hok p _ h;exact⟨its,n,r,e,z⟩
theorem Inv.Vp{pins:List (Addr×Obj)}{σ:St}{H:Hp}{s:Shared}{p:Addr}{xs ys:List V}{its Qg:List Value}{n n':Nat}{f:Obj→Obj}(I:Inv X pins σ H s)(h:H p=some (.lst xs))
  (ho:s.heap.get? p=some { cls:=.type "list",data:=.seq its.toArray n }) (hf:f { cls:=.type "list",data:=.seq its.toArray n }={ cls:=.type "list",data:=.seq Qg.toArray n' }) (r:aR ys Qg) (hz:ys.length≤sizeLine) (t:Nat):
  Inv X pins σ (upd H p (.lst ys)) { s with heap:=s.heap.update p f,toks:=t }:=by
 have e:(s.heap.update p f).get? p=some { cls:=.type "list",data:=.seq Qg.toArray n' }:=by rw[Heap.get?_update_self f ho (by rw[hf]<;>rfl),hf]
 refine I.write (x:=p) (e:=p) (by rw[h];trivial) (.inl rfl) (fun b u hb q=>(Heap.get?_update_other _ _ (Ne.symm hb)).trans q) ⟨_,e⟩ ?_;exact⟨hz,Qg,n',r,e⟩
def IE:V→V→V→Hp→(Hp→Prop)→Prop:=fun o i v H Q=>∃p xs k j,o=.ref p∧i=.int k∧H p=some (.lst xs)∧SM xs.length k=some j∧Q (upd H p (.lst (xs.set j v)))
theorem zp:JP X IE:=by
 intro pins s σ H o i v ov iv u Q I ro ri rv h;obtain⟨p,xs,k,j,rfl,rfl,hp,hj,q⟩:=h
 cases ro
 obtain⟨t,rfl⟩:=ri;obtain⟨its,n,r,ho,hz⟩:=I.lst hp;obtain⟨h1,h2,h3,h4⟩:=wO hj;have hl:=r.length;have hn:=kz
 have I':Inv X pins σ (upd H p (.lst (xs.set j v))) { s with heap:=s.heap.update p (Obj.mapSeq (·.setIfInBounds j u)) }:=
  I.Vp hp ho (uV its n j u) (r.set rv j) (by rw[List.length_set];exact hz) s.toks
 by_cases h0:0≤k
 ·have hk:k.toNat=j:=by rw[seqIndex_of h0 h4]at h1;exact Option.some.inj h1
  exact W.ki_setAt ho h0 (by omega) (by rw[List.size_toArray,← hl];exact h4) (by rw[hk];exact⟨_,I',q⟩)
 ·have hk:(k+(its.toArray.size:Int)).toNat=j:=by rw[seqIndex_neg (by omega) h3]at h1;rw[List.size_toArray,← hl];exact Option.some.inj h1
  exact W.ki_setBack ho (by omega) (by rw[List.size_toArray,← hl];exact h3) (by omega) (by rw[hk];exact⟨_,I',q⟩)
theorem qH(lo hi:Option Int)(n:Nat):(sliceBounds lo hi none n).1=((HT.G3 n 0 lo:Nat):Int)∧(sliceBounds lo hi none n).2.1=((HT.G3 n n hi:Nat):Int)∧(sliceBounds lo hi none n).2.2=1:=by
 refine⟨?_,?_,rfl⟩
 ·cases lo with
  |none=>simp[sliceBounds,HT.G3]
  |some i=>
   simp only[sliceBounds,HT.G3,Option.getD_none,show(1:Int)>0 by decide,if_true]
   by_cases h:i<0
   ·simp only[h,if_true]<;>omega
   ·simp only[h,if_false]<;>omega
 ·cases hi with
  |none=>simp[sliceBounds,HT.G3]
  |some i=>
   simp only[sliceBounds,HT.G3,Option.getD_none,show(1:Int)>0 by decide,if_true]
   by_cases h:i<0
   ·simp only[h,if_true]<;>omega
   ·simp only[h,if_false]<;>omega
theorem oU(its:List Value)(lo hi:Option Int):slicePick its.toArray lo hi none=((its.drop (HT.G3 its.length 0 lo)).take (HT.G3 its.length its.length hi - HT.G3 its.length 0 lo)).toArray:=by obtain⟨h1,h2,h3⟩:=qH lo hi its.toArray.size;unfold slicePick;rw[h1,h2,h3];simp only[sliceRange_one,pick_run,List.size_toArray]<;>rfl
def IC(K:W.Frag):V→Option Int→Option Int→Hp→VK→Prop:=fun x lo hi H Q=>∃a xs,x=.ref a∧Mq K H a xs∧∀p,H p=none→Q (.ref p) (upd H p (.lst (tN xs lo hi)))
theorem Cd:Tz X (IC X.K):=by
 intro pins s σ H x v vl vu lo hi sl Q I rx hs pl pu h;obtain⟨a,xs,rfl,hx,q⟩:=h
 cases rx
 obtain⟨its,r,ht,hz⟩:=I.list hx;have E_:=r.length;refine⟨"list",_,slot_list_getitem.lookup,ht.isList.typeIs,?_⟩;refine wpAny_getItem_list_slice ht.isList hs pl pu .none (by simp) ?_ (by rw[List.size_toArray]<;>omega);rw[oU,← E_];refine⟨.ref s.heap.objs.size,_,I.laid (t':=s.toks) (o:=.lst (tN xs lo hi)) (fun b ob q=>Heap.get?_push_of_some _ q) (Nat.le_refl _) ?_,rfl,q _ (I.hok.fresh (Nat.le_refl _))⟩;exact⟨Nat.le_trans (mI xs lo hi) hz,_,0,(r.drop (HT.G3 xs.length 0 lo)).take (HT.G3 xs.length xs.length hi - HT.G3 xs.length 0 lo),Heap.get?_push_size _ rfl⟩
theorem rG:cY X (.builtin "len") (fun xs H Q=>∃p ys,xs= [.ref p]∧(Mq X.K H p ys∨Nf X.K H p ys)∧Q (.int ys.length) H):=by
 intro pins s σ H xs us Q I r h;obtain⟨p,ys,rfl,hq,q⟩:=h;obtain⟨u,rfl,rx⟩:=nc r
 cases rx
 have hn:=kz;rcases hq with hq|hq
 ·obtain⟨its,r',pl,hz⟩:=I.list hq;have E_:=r'.length;exact Calls.call_len_list pl.isList (by simp only[List.size_toArray]<;>omega) ⟨.int ys.length,H,I.tok _,⟨s.toks+1,by rw[List.size_toArray,E_]⟩,q⟩
 ·obtain⟨its,r',pl,hz⟩:=I.tuple hq;have E_:=r'.length;exact len_tuple pl (by simp only[List.size_toArray]<;>omega) ⟨.int ys.length,H,I.tok _,⟨s.toks+1,by rw[List.size_toArray,E_]⟩,q⟩
theorem rF:cY X (.builtin "len") (fun xs H Q=>∃z,xs= [.str z]∧z.length≤sizeLine∧Q (.int z.length) H):=by intro pins s σ H xs us Q I r h;obtain⟨z,rfl,hz,q⟩:=h;obtain⟨u,rfl,t,rfl⟩:=nc r;have hn:=kz;exact len_str (by omega) ⟨.int z.length,H,I.tok _,⟨_,rfl⟩,q⟩
theorem oZ:cY X (.type "tuple") (fun xs H Q=>∃p ys,xs= [.ref p]∧((Mq X.K H p ys∧∀l,H l=none→Q (.ref l) (upd H l (.tup ys)))∨(Nf X.K H p ys∧Q (.ref p) H))):=by
 intro pins s σ H xs us Q I r h;obtain⟨p,ys,rfl,h⟩:=h;obtain⟨u,rfl,rx⟩:=nc r
 cases rx
 rcases h with⟨hq,q⟩|⟨hq,q⟩
 ·obtain⟨its,r',pl,hz⟩:=I.list hq;have E_:=r'.length;refine call_tuple_list pl.isList (fun h' kp=>?_) (by simp only[List.size_toArray]<;>omega);have I1:Inv X pins σ H { s with heap:=h' }:=I.kept (t':=s.toks) kp
  have I2:Inv X pins σ (upd H h'.objs.size (.tup ys)) { s with heap:=h'.push { cls:=.type "tuple",data:=.seq its.toArray } }:=
   I1.laid (t':=s.toks) (fun b o e=>Heap.get?_push_of_some _ e) (Nat.le_refl _) (show bN X.prog X.w _ _ _ (.tup ys)from⟨hz,its,r',IsTup.new _ _⟩)
  exact⟨.ref h'.objs.size,_,I2,rfl,q _ (I1.hok.fresh (Nat.le_refl _))⟩
 ·obtain⟨its,r',pl,hz⟩:=I.tuple hq;exact call_tuple_same pl ⟨.ref p,H,I,rfl,q⟩
def Vi(K:W.Frag)(T:String)(x:V)(H:Hp):Prop:=match x with
 |.str _=>T="str"
 |.int _=>T="int"
 |.ref p=>(T="list"∧∃xs,Mq K H p xs)∨(T="tuple"∧∃o,K.lookup p=some o∧o.cls=.type "tuple"∧o.dict=none)∨
   (T="dict"∧((∃kvs,H p=some (.dK kvs))∨∃kvs,H p=some (.dT kvs)))∨(T="set"∧∃S n,H p=some (.set S n))
 |_=>False
theorem yY{pins:List (Addr×Obj)}{σ:St}{H:Hp}{s:Shared}{T:String}{x:V}{v:Value}(I:Inv X pins σ H s)(r:aX x v)(ty:Vi X.K T x H):
  s.TypeIs v T∧∀a,v=.ref a→∃ob,s.heap.get? a=some ob∧ob.dict=none:=by
 cases x with
 |str z=>
  obtain⟨t,rfl⟩:=r
  cases(show T="str" from ty)
  exact⟨typeIs_str s z t,fun _ e=>nomatch e⟩
 |int i=>
  obtain⟨t,rfl⟩:=r
  cases(show T="int" from ty)
  exact⟨typeIs_int s i t,fun _ e=>nomatch e⟩
 |ref p=>
  cases r
  rcases ty with⟨rfl,xs,hq⟩|⟨rfl,o,hk,hc,hd⟩|⟨rfl,hk⟩|⟨rfl,S,n,hk⟩
  ·obtain⟨its,_,pl,_⟩:=I.list hq;refine⟨pl.isList.typeIs,fun a e=>?_⟩
   cases e
   obtain⟨o,n,e,c,hd,_⟩:=pl;exact⟨o,e,hd⟩
  ·refine⟨⟨o,I.Qq p o hk,hc⟩,fun a e=>?_⟩
   cases e
   exact⟨o,I.Qq _ o hk,hd⟩
  ·have z:∃o,s.heap.get? p=some o∧o.ExactDict:=by
    rcases hk with⟨kvs,hk⟩|⟨kvs,hk⟩
    ·obtain⟨_,_,_,_,o,_,_,e,ex,_⟩:=I.hok p _ hk;exact⟨o,e,ex⟩
    ·obtain⟨_,_,_,_,o,_,_,e,ex,_⟩:=I.hok p _ hk;exact⟨o,e,ex⟩
   obtain⟨o,e,ex⟩:=z;refine⟨⟨o,e,ex.1⟩,fun a e2=>?_⟩
   cases e2
   exact⟨o,e,ex.2.1⟩
  ·obtain⟨o,_,_,_,e,ex,_⟩:=I.hok p _ hk;refine⟨⟨o,e,ex.1⟩,fun a e2=>?_⟩
   cases e2
   exact⟨o,e,ex.2.1⟩
 |_=>exact False.elim ty
noncomputable def KD(K:W.Frag)(T:String)(r:V→List V→Hp→VK→Prop)(to:TE):TE:=fun σ H Q=>to σ H fun x H1=>Vi K T x H1∧r x [] H1 Q
noncomputable def tBM(K:W.Frag)(T:String)(r:V→List V→Hp→VK→Prop)(to:TE)(t:TA):TE:=fun σ H Q=>to σ H fun x H1=>Vi K T x H1∧t σ H1 fun xs H2=>r x xs H2 Q
variable{o e:Expr}{es:List Expr}{to:TE}{t:TA}{name:Str}{apos G7:Pos}{T id:String}{r:V→List V→Hp→VK→Prop}
theorem GB(pa:PlainAttrs T)(slot:Slot T name id)(Uu:typeOf (.builtin id)=pure (.type "method_descriptor"))(hm:VP X id r)(ho:PE X o to)
  (QM:attributeBase o name X.env (eval o X.env)=eval o X.env:=by rfl) (hline:(apos.endLine==G7.line)=true:=by rfl):PE X (.Call (.Attribute o name apos) [] [] G7) (KD X.K T r to):=by
 intro pins s σ H Q I h;refine wpAny_Call_method0_late QM hline (B_ (ho pins s σ H _ I h) ?_);rintro v s1 ⟨x,H1,I1,r1,ty,q1⟩;obtain⟨h1,h2⟩:=yY I1 r1 ty;exact⟨T,id,pa,slot,Uu,h1,h2,Calls.callWith_builtin rfl (PySem.evalArgs_none (hm pins s1 σ H1 x [] v [] Q I1 r1 .nil q1))⟩
theorem IT(pa:PlainAttrs T)(slot:Slot T name id)(Uu:typeOf (.builtin id)=pure (.type "method_descriptor"))(hm:VP X id r)(ho:PE X o to)(ha:PA X (e::es) t)
  (QM:attributeBase o name X.env (eval o X.env)=eval o X.env:=by rfl)
  (Vu:((backTo G7 (starEach (e::es) X.env)).all (fun x=>!x.1)&&(backToKw G7 (keywordEach [] X.env)).all (fun x=>x.1.isSome)
   &&decide ((e::es).length+([]:List Keyword).length+(if([]:List Keyword).isEmpty then 0 else 1)<30))=true:=by rfl)
  (hline:(apos.endLine==G7.line)=true:=by rfl)(hs:sE0 X e es:=by rfl) (SN:(backTo G7 (starEach es X.env)).any (·.1)=false:=by rfl):
  PE X (.Call (.Attribute o name apos) (e::es) [] G7) (tBM X.K T r to t):=by
 intro pins s σ H Q I h;refine wpAny_Call_method_late QM Vu hline rfl (B_ (ho pins s σ H _ I h) ?_);rintro v s1 ⟨x,H1,I1,r1,ty,q1⟩;obtain⟨h1,h2⟩:=yY I1 r1 ty;refine⟨T,id,pa,slot,Uu,h1,h2,?_⟩;have hA:=ha G7 pins s1 σ H1 _ I1 q1;rw[hs]at hA ⊢;refine Calls.callWith_builtin (by show(false||(backTo G7 (starEach es X.env)).any (·.1))=false;rw[SN]<;>rfl) (Calls.evalArgs_plain ?_);exact B_ hA (by rintro us s2 ⟨vs,H2,I2,r2,q2⟩;exact hm pins s2 σ H2 x vs v us Q I2 r1 r2 q2)
end
def MtM(X:Cx)(id:String)(r:V→List V→Hp→VK→Prop):Prop:=
 ∀(pins:List (Addr×Obj))(s:Shared)(σ:St)(H:Hp)(x:V)(xs:List V)(v:Value)(us:List Value)(Q:VK),Inv X pins σ H s→aX x v→aR xs us→r x xs H Q→
  wpAny (model X.prog X.w) X.A (call (.builtin id) (v::us)) (EP X pins σ Q) X.xe s
theorem aR.one:∀{x:V}{us:List Value},aR [x] us→∃u,us= [u]∧aX x u:=by
 intro x us h;cases h with|cons r t=>cases t;exact⟨_,rfl,r⟩
theorem aR.zero:∀{us:List Value},aR [] us→us= []
 |_,.nil=>rfl
theorem aR.rep{xs:List V}{us:List Value}(h:aR xs us):∀k:Nat,aR (List.replicate k xs).flatten (List.replicate k us).flatten
 |0=>.nil
 |k+1=>by rw[List.replicate_succ,List.replicate_succ,List.flatten_cons,List.flatten_cons];exact aR.append h (aR.rep h k)
theorem qf(its:List Value):∀(k:Nat)(acc:List Value),
  List.foldl (fun x1 x2=>x1++x2) acc.toArray (List.replicate k its.toArray)=(acc++(List.replicate k its).flatten).toArray
 |0,acc=>by simp
 |k+1,acc=>by
  have e:acc.toArray++its.toArray=(acc++its).toArray:=by simp
  have e2:(acc++its)++(List.replicate k its).flatten=acc++(List.replicate (k+1) its).flatten:=by rw[List.replicate_succ,List.flatten_cons,List.append_assoc]
  rw[← e2,← qf its k (acc++its),← e,List.replicate_succ,List.foldl_cons]
section
variable{X:Cx}{pins:List (Addr×Obj)}{σ:St}{H:Hp}{s:Shared}{l b:Addr}{xs ys zs:List V}
theorem Inv.Ys{its Qg:List Value}{n:Nat}{f:Array Value→Array Value}{t':Nat}(I:Inv X pins σ H s)(hH:H l=some (.lst xs))
  (e:s.heap.get? l=some { cls:=.type "list",data:=.seq its.toArray n }) (hf:f its.toArray=Qg.toArray) (hv:aR ys Qg) (hz:ys.length≤sizeLine):
  Inv X pins σ (upd H l (.lst ys)) { s with heap:=s.heap.update l (Obj.mapSeq f),toks:=t' }:=by
 have q:=PySem.IsL.update e f;rw[hf]at q;refine I.write (x:=l) (e:=l) (by rw[hH];exact trivial) (.inl rfl) (fun b' u hb hu=>(Heap.get?_update_other s.heap (Obj.mapSeq f) (Ne.symm hb)).trans hu) ⟨_,q⟩ ?_;exact⟨hz,Qg,_,hv,q⟩
theorem Inv.WD{its:List Value}{t':Nat}(I:Inv X pins σ H s)(hv:aR ys its)(hz:ys.length≤sizeLine):
  Inv X pins σ (upd H s.heap.objs.size (.lst ys)) { s with heap:=s.heap.push { cls:=.type "list",data:=.seq its.toArray },toks:=t' }:=
 I.laid (fun _ _ q=>Heap.get?_push_of_some _ q) (Nat.le_refl _) ⟨hz,its,0,hv,Heap.get?_push_size _ rfl⟩
theorem Inv.fresh(I:Inv X pins σ H s):H s.heap.objs.size=none:=I.hok.fresh (Nat.le_refl _)
theorem Inv.Us(I:Inv X pins σ H s)(hH:H l=some (.lst xs)):xs.length≤sizeLine∧∃(its:List Value)(n:Nat),aR xs its∧xs.length=its.length∧s.heap.get? l=some { cls:=.type "list",data:=.seq its.toArray n }:=by obtain⟨z,its,n,r,e⟩:=I.hok l _ hH;exact⟨z,its,n,r,r.length,e⟩
theorem AK{n:Nat}(h:n≤sizeLine):Builtin.List.listTooLong n=false:=by unfold Builtin.List.listTooLong;exact decide_eq_false (by omega)
end
section
variable{X:Cx}
def wo:V→List V→Hp→VK→Prop:=fun x vs H Q=>∃l xs y,x=.ref l∧vs= [y]∧H l=some (.lst xs)∧xs.length<sizeLine∧Q .non (upd H l (.lst (xs++ [y])))
theorem yu:MtM X "list.append" wo:=by
 intro pins s σ H x vs v us Q I rx rv h;obtain⟨l,xs,y,rfl,rfl,hH,hz,q⟩:=h
 cases rx
 obtain⟨u,rfl,ru⟩:=rv.one;obtain⟨z,its,n,r,hl,e⟩:=I.Us hH;refine call_meets F.slot_list_append ⟨_,e,rfl⟩ F.entry_list_append (F.args_list_append_2 _ _) (PySem.list_append l its.toArray n u (by rw[List.size_toArray];omega)) ⟨e,?_⟩;refine⟨.non,_,I.Ys (Qg:=its++ [u]) hH e (by simp) (r.append (.cons ru .nil)) ?_,rfl,q⟩;rw[List.length_append,List.length_singleton];omega
def IK:R2:=fun x y H Q=>∃l b xs zs,x=.ref l∧y=.ref b∧H l=some (.lst xs)∧H b=some (.lst zs)∧xs.length+zs.length≤sizeLine∧∀p,H p=none→Q (.ref p) (upd H p (.lst (xs++zs)))
theorem GO:Ng X (binaryOp .Add) IK:=by
 intro pins s σ H x y v u Q I rx ry h;obtain⟨l,b,xs,zs,rfl,rfl,hH,hB,hz,q⟩:=h
 cases rx
 cases ry
 obtain⟨z,its,n,r,hl,e⟩:=I.Us hH;obtain⟨z2,Ut,n2,r2,hl2,e2⟩:=I.Us hB;refine PySem.P.add_list e e2 ?_ (by rw[List.size_toArray,List.size_toArray];omega);have ea:its.toArray++Ut.toArray=(its++Ut).toArray:=by simp
 rw[ea];exact⟨.ref _,_,I.WD (t':=s.toks) (r.append r2) (by rw[List.length_append];omega),rfl,q _ I.fresh⟩
def IF:R2:=fun x y H Q=>∃l k xs,x=.ref l∧y=.int k∧H l=some (.lst xs)∧ -(2 ^ 63)≤k∧k<2 ^ 63∧xs.length * k.toNat≤sizeLine∧
 ∀p,H p=none→Q (.ref p) (upd H p (.lst (List.replicate k.toNat xs).flatten))
theorem DC{α:Type}(xs:List α)(k:Nat):(List.replicate k xs).flatten.length=k * xs.length:=by
 induction k with
 |zero=>simp
 |succ k ih=>rw[List.replicate_succ,List.flatten_cons,List.length_append,ih,Nat.succ_mul,Nat.add_comm]
theorem GG:Ng X (binaryOp .Mult) IF:=by
 intro pins s σ H x y v u Q I rx ry h;obtain⟨l,k,xs,rfl,rfl,hH,h1,h2,hz,q⟩:=h
 cases rx
 obtain⟨t,rfl⟩:=ry;obtain⟨z,its,n,r,hl,e⟩:=I.Us hH;have E_:its.toArray.size * k.toNat≤sizeLine:=by rw[List.size_toArray,← hl];exact hz
 have Y4:¬ its.toArray.size * k.toNat>(2 ^ 63 - 1) / 8:=by
  have:(sizeLine:Nat)≤(2 ^ 63 - 1) / 8:=by decide
  omega
 have YW:¬ (!Builtin.List.listFitsIndex k)=true:=by rw[fitsIndex_both h1 h2];exact Bool.false_ne_true
 have WW:¬ Builtin.List.listTooLong (its.toArray.size * k.toNat)=true:=by rw[AK E_];exact Bool.false_ne_true
 have YG:List.foldl (fun x1 x2=>x1++x2) #[] (List.replicate (if its.toArray.isEmpty=true then 0 else k.toNat) its.toArray)=(List.replicate k.toNat its).flatten.toArray:=by
  have f0:∀m:Nat,List.foldl (fun x1 x2=>x1++x2) #[] (List.replicate m its.toArray)=(List.replicate m its).flatten.toArray:=fun m=>by have:=qf its m [];rw[List.nil_append]at this;exact this
  rw[f0]
  cases its with
  |nil=>simp
  |cons a r'=>rw[if_neg (by simp)]
 refine wpAny_binaryOp_repeat_ref (T:="list") (U:="int") (by decide) ⟨_,e,rfl⟩ (fun s'=>typeIs_int s' k t) noFill_list_mul F.fills_int_mul F.slot_int_rmul repeat_list F.slot_int_index.lookup
  (call_meets F.slot_int_rmul (typeIs_int s k t) F.entry_int_rmul (F.args_int_rmul_2 _ _) (int___rmul___int_list k t l its.toArray n)
   ⟨e,rfl,⟨_,e,rfl⟩,call_meets F.slot_list_mul ⟨_,e,rfl⟩ F.entry_list_mul (F.args_list_mul_2 _ _) (AutoListH.list___mul___list_int_3 l its.toArray n k t YW Y4 WW) ⟨e,?_⟩⟩)
 rw[YG];exact⟨.ref _,_,I.WD (t':=s.toks) (r.rep k.toNat) (by rw[DC,Nat.mul_comm];exact hz),rfl,q _ I.fresh⟩
end
section
variable{prog:Program}{w:World}{A:Around}{E:Value→Shared→Prop}{s:Shared}
set_option maxRecDepth 100000 in
end
section
variable{κ:Type} [DecidableEq κ]
noncomputable def iP(kvs:List (κ×V))(k:κ):Option V:=(kvs.find? fun kv=>decide (kv.1=k)).map (·.2)
noncomputable def iS(kvs:List (κ×V))(k:κ)(v:V):List (κ×V):=
 if(kvs.any fun kv=>decide (kv.1=k))=true then kvs.map (fun kv=>if kv.1=k then(kv.1,v)else kv)else kvs++ [(k,v)]
noncomputable def lH(kvs:List (κ×V))(k:κ):List (κ×V):=kvs.filter fun kv=>decide (kv.1≠k)
theorem kH{p:κ×V}{r:List (κ×V)}{k:κ}(e:p.1=k):iP (p::r) k=some p.2:=by simp[iP,List.find?_cons,e]
theorem kI{p:κ×V}{r:List (κ×V)}{k:κ}(e:¬ p.1=k):iP (p::r) k=iP r k:=by simp[iP,List.find?_cons,e]
theorem rQ(k:κ):∀kvs:List (κ×V),(kvs.any fun kv=>decide (kv.1=k))=(iP kvs k).isSome
 |[]=>rfl
 |p::r=>by
  rw[List.any_cons]
  by_cases e:p.1=k
  ·simp only[kH e,decide_eq_true e,Bool.true_or,Option.isSome_some]
  ·rw[kI e,decide_eq_false e,Bool.false_or];exact rQ k r
theorem jB(kvs:List (κ×V))(k:κ)(v:V):(iS kvs k v).length≤kvs.length+1:=by
 unfold iS
 split
 ·rw[List.length_map];omega
 ·rw[List.length_append,List.length_cons,List.length_nil];omega
theorem jj.Nz{o:Option V}{u:Option Value}(r:jj o u):o.isSome=u.isSome:=by
 cases o with
 |none=>cases u with
  |none=>rfl
  |some _=>exact(show False from r).elim
 |some _=>cases u with
  |none=>exact(show False from r).elim
  |some _=>rfl
theorem jj.getD{o:Option V}{u:Option Value}{d:V}{d':Value}(r:jj o u)(rd:aX d d'):aX (o.getD d) (u.getD d'):=by
 cases o with
 |none=>cases u with
  |none=>exact rd
  |some _=>exact(show False from r).elim
 |some _=>cases u with
  |none=>exact(show False from r).elim
  |some _=>exact r
theorem KV.val{kvs:List (κ×V)}{vs:List (κ×Value)}(r:KV kvs vs)(k:κ):jj (iP kvs k) (valueAt vs k):=by
 unfold KV at r
 induction r with
 |nil=>exact True.intro
 |@cons p q ps qs h t ih=>
  obtain⟨h1,h2⟩:=h
  by_cases e:p.1=k
  ·have e':q.1=k:=h1.symm.trans e;have b:valueAt (q::qs) k=some q.2:=by simp[valueAt,List.find?_cons,e']
   rw[kH e,b];exact h2
  ·have e':¬ q.1=k:=fun z=>e (h1.trans z);have b:valueAt (q::qs) k=valueAt qs k:=by simp[valueAt,List.find?_cons,e']
   rw[kI e,b];exact ih
theorem KV.any{kvs:List (κ×V)}{vs:List (κ×Value)}(r:KV kvs vs)(k:κ):(kvs.any fun kv=>decide (kv.1=k))=vs.any fun kv=>decide (kv.1=k):=by
 unfold KV at r
 induction r with
 |nil=>rfl
 |cons h t ih=>rw[List.any_cons,List.any_cons,ih,h.1]
theorem KV.repl{kvs:List (κ×V)}{vs:List (κ×Value)}(r:KV kvs vs)(k:κ){y:V}{u:Value}(ry:aX y u):
  KV (kvs.map fun kv=>if kv.1=k then(kv.1,y)else kv) (vs.map fun kv=>if kv.1=k then(kv.1,u)else kv):=by
 unfold KV at r ⊢
 induction r with
 |nil=>exact .nil
 |@cons p q ps qs h t ih=>
  rw[List.map_cons,List.map_cons];refine .cons ?_ ih;obtain⟨h1,h2⟩:=h
  by_cases e:p.1=k
  ·rw[if_pos e,if_pos (h1.symm.trans e)];exact⟨h1,ry⟩
  ·rw[if_neg e,if_neg (fun z=>e (h1.trans z))];exact⟨h1,h2⟩
theorem KV.put{kvs:List (κ×V)}{vs:List (κ×Value)}(r:KV kvs vs)(k:κ){y:V}{u:Value}(ry:aX y u):KV (iS kvs k y) (stored vs k u):=by
 unfold iS stored;rw[r.any k]
 by_cases e:(vs.any fun kv=>decide (kv.1=k))=true
 ·rw[if_pos e,if_pos e];exact r.repl k ry
 ·rw[if_neg e,if_neg e];exact Paired.snoc r ⟨rfl,ry⟩
theorem KV.drop{kvs:List (κ×V)}{vs:List (κ×Value)}(r:KV kvs vs)(k:κ):KV (lH kvs k) (without vs k):=by
 unfold KV at r ⊢;unfold lH without
 induction r with
 |nil=>exact .nil
 |@cons p q ps qs h t ih=>
  obtain⟨h1,h2⟩:=h;rw[List.filter_cons,List.filter_cons]
  by_cases e:p.1=k
  ·have a:¬ decide (p.1≠k)=true:=by simp[e]
   have b:¬ decide (q.1≠k)=true:=by simp[h1.symm.trans e]
   rw[if_neg a,if_neg b];exact ih
  ·have e':¬ q.1=k:=fun z=>e (h1.trans z);have a:decide (p.1≠k)=true:=by simp[e]
   have b:decide (q.1≠k)=true:=by simp[e']
   rw[if_pos a,if_pos b];exact .cons ⟨h1,h2⟩ ih
theorem KV.length{kvs:List (κ×V)}{vs:List (κ×Value)}(r:KV kvs vs):kvs.length=vs.length:=Paired.length r
theorem Bu(kvs:List (κ×V))(k:κ):(lH kvs k).length≤kvs.length:=List.length_filter_le _ _
end
theorem ke{P:Program}{w:World}{k:Key}{u:Value}(r:aX (kV k) u):(aY P w).is k u=true:=by
 cases k with
 |inl i=>obtain⟨t,e⟩:=(show∃t,u=Value.int i t from r);subst e;exact sU P w i t
 |inr x=>obtain⟨t,e⟩:=(show∃t,u=Value.str x t from r);subst e;exact sT P w x t
theorem qa{P:Program}{w:World}:∀{ks:List Key}{us:List Value},aR (ks.map kV) us→ItemsAre (aY P w) ks us
 |[],_,r=>by rw[List.map_nil]at r;cases r;exact .nil
 |k::ks,_,r=>by
  rw[List.map_cons]at r
  cases r with
  |cons h t=>exact .cons (ke h) (qa t)
abbrev KT(H:Hp):List (List Key×V)→List (List Key×Addr×Value)→Prop:=Paired fun p q=>p.1=q.1∧H q.2.1=some (.tup (p.1.map kV))∧aX p.2 q.2.2
theorem KT.val{H:Hp}{kvs:List (List Key×V)}{xs:List (List Key×Addr×Value)}(r:KT H kvs xs)(k:List Key):jj (iP kvs k) ((atKey xs k).map (·.2)):=by
 induction r with
 |nil=>exact True.intro
 |@cons p q ps qs h t ih=>
  obtain⟨h1,_,h2⟩:=h
  by_cases e:p.1=k
  ·have e':q.1=k:=h1.symm.trans e;have b:atKey (q::qs) k=some q.2:=by simp[atKey,List.find?_cons,e']
   rw[kH e,b];exact h2
  ·have e':¬ q.1=k:=fun z=>e (h1.trans z);have b:atKey (q::qs) k=atKey qs k:=by simp[atKey,List.find?_cons,e']
   rw[kI e,b];exact ih
theorem KT.repl{H:Hp}{kvs:List (List Key×V)}{xs:List (List Key×Addr×Value)}(r:KT H kvs xs)(k:List Key){y:V}{u:Value}(ry:aX y u):
  KT H (kvs.map fun kv=>if kv.1=k then(kv.1,y)else kv) (xs.map (putAt k u)):=by
 induction r with
 |nil=>exact .nil
 |@cons p q ps qs h t ih=>
  rw[List.map_cons,List.map_cons];refine .cons ?_ ih;obtain⟨h1,h2,h3⟩:=h;unfold putAt
  by_cases e:p.1=k
  ·rw[if_pos e,if_pos (h1.symm.trans e)];exact⟨h1,h2,ry⟩
  ·rw[if_neg e,if_neg (fun z=>e (h1.trans z))];exact⟨h1,h2,h3⟩
theorem KT.put{H:Hp}{kvs:List (List Key×V)}{xs:List (List Key×Addr×Value)}(r:KT H kvs xs)(k:List Key){b:Addr}{y:V}{u:Value}(hb:H b=some (.tup (k.map kV)))(ry:aX y u):
  KT H (iS kvs k y) (storedH xs k b u):=by
 have e:(kvs.any fun kv=>decide (kv.1=k))=(atKey xs k).isSome:=by rw[rQ,(r.val k).Nz,Option.isSome_map]
 unfold iS storedH;rw[e]
 by_cases q:(atKey xs k).isSome=true
 ·rw[if_pos q,if_pos q];exact r.repl k ry
 ·rw[if_neg q,if_neg q];exact Paired.snoc r ⟨rfl,hb,ry⟩
theorem KT.keeps{H H':Hp}{kvs:List (List Key×V)}{xs:List (List Key×Addr×Value)}(r:KT H kvs xs)(ht:∀b ys,H b=some (.tup ys)→H' b=some (.tup ys)):KT H' kvs xs:=
 Paired.Vo r fun _ _ z=>⟨z.1,ht _ _ z.2.1,z.2.2⟩
section
variable{P:Program}{w:World}{H:Hp}{h:Heap}{a:Addr}
theorem zU{u:HO}(ok:Oc P w H h)(e:Rd H a u):bN P w H h a u:=e.ok ok
theorem gP{kvs:List (Key×V)}(ok:Oc P w H h)(e:Rd H a (.dK kvs)):kvs.length≤sizeLine∧(a==sysModules)=false∧∃vs,KV kvs vs∧h.DictOf (aY P w) a vs:=
 show bN P w H h a (.dK kvs)from zU ok e
theorem tG{kvs:List (Key×V)}(ok:Oc P w H h)(e:H a=some (.dK kvs)):kvs.length≤sizeLine∧(a==sysModules)=false∧∃vs,KV kvs vs∧h.DictOf (aY P w) a vs:=gP ok (.inl e)
theorem mj{ks:List Key}(ok:Oc P w H h)(e:H a=some (.tup (ks.map kV))):(tupleKind (aY P w)).is h ks a:=by
 obtain⟨_,its,r,o,h1,h2,n,h3⟩:=(show bN P w H h a (.tup (ks.map kV))from ok a _ e)
 exact⟨o,its.toArray,n,h1,h2,h3,by simpa using qa r⟩
theorem oA{kvs:List (List Key×V)}(ok:Oc P w H h)(e:Rd H a (.dT kvs)):kvs.length≤sizeLine∧(a==sysModules)=false∧
  ∃xs,KT H kvs xs∧h.DictOfH (tupleKind (aY P w)) a xs:=by
 obtain⟨z,y,xs,r,o,es,ep,h1,h2,h3,h4,h5⟩:=(show bN P w H h a (.dT kvs)from zU ok e)
 refine⟨z,y,xs,r,o,es,ep,h1,h2,h3,h4,fun x hx=>?_,h5⟩
 have all:∀{l:List (List Key×V)}{m:List (List Key×Addr×Value)},KT H l m→∀x∈m,(tupleKind (aY P w)).is h x.1 x.2.1:=by
  intro l m q
  induction q with
  |nil=>intro x hx;exact nomatch hx
  |@cons p q ps qs hq t ih=>
   intro x hx;rcases List.mem_cons.mp hx with e|hx
   ·subst e;exact mj ok (by rw[← hq.1];exact hq.2.1)
   ·exact ih x hx
 exact all r x hx
theorem JD{kvs:List (List Key×V)}(ok:Oc P w H h)(e:H a=some (.dT kvs)):kvs.length≤sizeLine∧(a==sysModules)=false∧
  ∃xs,KT H kvs xs∧h.DictOfH (tupleKind (aY P w)) a xs:=oA ok (.inl e)
end
def pe(H:Hp)(a:Addr)(y:V)(r:Option V):Prop:=
 (∃kvs k,Rd H a (.dK kvs)∧y=kV k∧r=iP kvs k)∨∃kvs k b,Rd H a (.dT kvs)∧y=.ref b∧H b=some (.tup (k.map kV))∧r=iP kvs k
def BM(H:Hp)(a:Addr)(y v:V)(H':Hp):Prop:=
 (∃kvs k,H a=some (.dK kvs)∧y=kV k∧kvs.length<sizeLine∧H'=upd H a (.dK (iS kvs k v)))∨
 ∃kvs k b,H a=some (.dT kvs)∧y=.ref b∧H b=some (.tup (k.map kV))∧kvs.length<sizeLine∧H'=upd H a (.dT (iS kvs k v))
theorem BM.k{H:Hp}{a:Addr}{kvs:List (Key×V)}{k:Key}{v:V}(e:H a=some (.dK kvs))(hl:kvs.length<sizeLine):BM H a (kV k) v (upd H a (.dK (iS kvs k v))):=.inl ⟨kvs,k,e,rfl,hl,rfl⟩
section
variable{X:Cx}{pins:List (Addr×Obj)}{σ:St}{H:Hp}{s:Shared}{a:Addr}{y v:V}{u r:Value}{o:Option V}{A:Around}{E:Value→Shared→Prop}
theorem Inv.big(I:Inv X pins σ H s):sysModules<s.heap.objs.size:=by have h:mainGlobals<s.heap.objs.size:=(I.mod.glob.keeps I.bk).lt;exact Nat.lt_trans (by decide) h
theorem yH{Q:Value→Shared→Prop}(hu:A.units+1<cLine)(I:Inv X pins σ H s)(g:pe H a y (some v))(ry:aX y u)(h:∀w' s',Inv X pins σ H s'→aX v w'→Q w' s'):
  wpAny (model X.prog X.w) A (getItem (.ref a) u) Q E s:=by
 rcases g with⟨kvs,k,e,ey,l⟩|⟨kvs,k,b,e,ey,eb,l⟩
 ·subst ey;obtain⟨z,hd,vs,rel,dd⟩:=gP I.hok e;obtain⟨w',hw,Rh⟩:=jj.some_of (v:=v) (o:=valueAt vs k) (by rw[l];exact rel.val k);exact wpAny_getItem_of (ke ry) dd.mapOf hw (h w' _ (I.tok _) Rh)
 ·subst ey
  cases(show u=Value.ref b from ry)
  obtain⟨z,hd,xs,rel,dd⟩:=oA I.hok e;obtain⟨w',hw,Rh⟩:=jj.some_of (v:=v) (o:=(atKey xs k).map (·.2)) (by rw[l];exact rel.val k);obtain⟨p,hp,V6⟩:=Option.map_eq_some_iff.mp hw;refine wpAny_getItem_heap (tupleKind_room_in1 hu) (mj I.hok eb) dd hp ?_;rw[V6];exact h w' _ (I.tok _) Rh
theorem LC{Q:Value→Shared→Prop}(hu:A.units+1<cLine)(I:Inv X pins σ H s)(g:pe H a y o)(ry:aX y u)(h:∀s',Inv X pins σ H s'→Q (.bool o.isSome) s'):
  wpAny (model X.prog X.w) A (compareOp .In u (.ref a)) Q E s:=by
 rcases g with⟨kvs,k,e,ey,l⟩|⟨kvs,k,b,e,ey,eb,l⟩
 ·subst ey;obtain⟨z,hd,vs,rel,dd⟩:=gP I.hok e;refine wpAny_in_of (ke ry) hd dd.mapOf ?_;rw[← (rel.val k).Nz,← l];exact h _ (I.tok _)
 ·subst ey
  cases(show u=Value.ref b from ry)
  obtain⟨z,hd,xs,rel,dd⟩:=oA I.hok e;refine wpAny_in_heap (tupleKind_room_in1 hu) (mj I.hok eb) hd dd ?_;have q:=(rel.val k).Nz;rw[Option.isSome_map]at q;rw[← q,← l];exact h _ (I.tok _)
theorem DZ{Q:Value→Shared→Prop}(hu:A.units+1<cLine)(I:Inv X pins σ H s)(g:pe H a y o)(ry:aX y u)(h:∀s',Inv X pins σ H s'→Q (.bool (!o.isSome)) s'):
  wpAny (model X.prog X.w) A (compareOp .NotIn u (.ref a)) Q E s:=by
 rcases g with⟨kvs,k,e,ey,l⟩|⟨kvs,k,b,e,ey,eb,l⟩
 ·subst ey;obtain⟨z,hd,vs,rel,dd⟩:=gP I.hok e;refine wpAny_notIn_of (ke ry) hd dd.mapOf ?_;rw[← (rel.val k).Nz,← l];exact h _ (I.tok _)
 ·subst ey
  cases(show u=Value.ref b from ry)
  obtain⟨z,hd,xs,rel,dd⟩:=oA I.hok e;refine wpAny_notIn_heap (tupleKind_room_in1 hu) (mj I.hok eb) hd dd ?_;have q:=(rel.val k).Nz;rw[Option.isSome_map]at q;rw[← q,← l];exact h _ (I.tok _)
theorem lK{h':Heap}{t':Nat}{ob:HO}(I:Inv X pins σ H s)(mu:Xg (H a))(hs:Heap.SameBut a s.heap h')(he:∃q,h'.get? a=some q)(new:bN X.prog X.w (upd H a ob) h' a ob):
  Inv X pins σ (upd H a ob) { s with heap:=h',toks:=t' }:=
 I.write (x:=a) (e:=a) mu (.inl rfl) (fun b q hb z=>(hs.2 b hb).trans z) he new
theorem oE{P:Program}{w:World}{H':Hp}{h':Heap}{kvs:List (Key×V)}{vs:List (Key×Value)}(z:kvs.length≤sizeLine)(hd:(a==sysModules)=false)(rel:KV kvs vs)(dd:h'.DictOf (aY P w) a vs):
  bN P w H' h' a (.dK kvs):=⟨z,hd,vs,rel,dd⟩
theorem yG{H':Hp}{Q:Unit→Shared→Prop}(hu:A.units+1<cLine)(I:Inv X pins σ H s)(g:BM H a y v H')(ry:aX y u)(rv:aX v r)(h:∀s',Inv X pins σ H' s'→Q () s'):
  wpAny (model X.prog X.w) A (setItem (.ref a) u r) Q E s:=by
 rcases g with⟨kvs,k,e,ey,l,eH⟩|⟨kvs,k,b,e,ey,eb,l,eH⟩
 ·subst ey eH;obtain⟨z,hd,vs,rel,dd⟩:=tG I.hok e;have hz:vs.length≤sizeLine:=by rw[← rel.length];exact z
  have hl:(iS kvs k v).length≤sizeLine:=by have:=jB kvs k v;omega
  refine wpAny_setItem_pairs (hsz:=hz) (ke ry) dd fun h' Tf hs=>h _ ?_;have he:∃q,h'.get? a=some q:=let⟨q,_,_,hq,_⟩:=Tf;⟨q,hq⟩;exact lK I (by rw[e];exact True.intro) hs he (oE hl hd (rel.put k rv) Tf)
 ·subst ey eH
  cases(show u=Value.ref b from ry)
  obtain⟨z,hd,xs,rel,dd⟩:=JD I.hok e;have hz:xs.length≤sizeLine:=by rw[← Paired.length rel];exact z
  have hl:(iS kvs k v).length≤sizeLine:=by have:=jB kvs k v;omega
  refine wpAny_setItem_heap (hsz:=hz) (tupleKind_room_in1 hu) (mj I.hok eb) dd fun h' Tf hs=>h _ ?_;obtain⟨q,es,ep,hq,h2,h3,h4,_,h5⟩:=Tf;refine lK I (by rw[e];exact True.intro) hs ⟨q,hq⟩ ⟨hl,hd,_,(rel.put k eb rv).keeps fun c ys ec=>?_,q,es,ep,hq,h2,h3,h4,h5⟩;rw[aj (pS ec e (fun z=>nomatch z))];exact ec
end
section
variable{X:Cx}{pins:List (Addr×Obj)}{σ:St}{H:Hp}{s:Shared}{a:Addr}{kvs:List (Key×V)}{k:Key}{u:Value}{A:Around}{E:Value→Shared→Prop}
theorem JE{v:V}{more:List Value}{Q:Value→Shared→Prop}(I:Inv X pins σ H s)(e:H a=some (.dK kvs))(ry:aX (kV k) u)(l:iP kvs k=some v)(hm:more= []∨∃x,more= [x])
  (h:∀w' s',Inv X pins σ (upd H a (.dK (lH kvs k))) s'→aX v w'→Q w' s'):wpAny (model X.prog X.w) A (call (.builtin "dict.pop") (.ref a::u::more)) Q E s:=by
 obtain⟨z,hd,vs,rel,dd⟩:=tG I.hok e;obtain⟨w',hw,Rh⟩:=jj.some_of (v:=v) (o:=valueAt vs k) (by rw[← l];exact rel.val k)
 have hp:(keyPart u).isSome=true:=by
  cases k with
  |inl i=>obtain⟨t,q⟩:=(show∃t,u=Value.int i t from ry);subst q;rfl
  |inr x=>obtain⟨t,q⟩:=(show∃t,u=Value.str x t from ry);subst q;rfl
 have ha:argsOk "dict.pop" ⟨.ref a::u::more,[]⟩:=by
  rcases hm with q|⟨x,q⟩
  ·subst q;exact PySem.F.args_dict_pop_2 _ _
  ·subst q;exact PySem.F.args_dict_pop_3 _ _ _
 refine call_meetsIn PySem.F.slot_dict_pop dd.typeIs PySem.F.entry_dict_pop ha (meets_dict_pop_there (aY X.prog X.w) a (ke ry) more hm hp)
  ⟨vs,w',dd,by rw[← rel.length];exact z,hw,fun h' Tf hs=>h w' _ ?_ Rh⟩
 have he:∃q,h'.get? a=some q:=let⟨q,_,_,hq,_⟩:=Tf;⟨q,hq⟩;exact lK I (by rw[e];exact True.intro) hs he (oE (Nat.le_trans (Bu kvs k) z) hd (rel.drop k) Tf)
theorem Hs{r:Value}{Q:Value→Shared→Prop}(I:Inv X pins σ H s)(e:H a=some (.dK kvs))(ry:aX (kV k) u)(l:iP kvs k=none)(h:∀s',Inv X pins σ H s'→Q r s'):
  wpAny (model X.prog X.w) A (call (.builtin "dict.pop") [.ref a,u,r]) Q E s:=by
 obtain⟨z,hd,vs,rel,dd⟩:=tG I.hok e;have hn:valueAt vs k=none:=jj.none_of (by rw[← l];exact rel.val k)
 have hp:(keyPart u).isSome=true:=by
  cases k with
  |inl i=>obtain⟨t,q⟩:=(show∃t,u=Value.int i t from ry);subst q;rfl
  |inr x=>obtain⟨t,q⟩:=(show∃t,u=Value.str x t from ry);subst q;rfl
 exact call_meetsIn PySem.F.slot_dict_pop dd.typeIs PySem.F.entry_dict_pop (PySem.F.args_dict_pop_3 _ _ _) (meets_dict_pop_default (aY X.prog X.w) a (ke ry) hd hp r) ⟨vs,dd,hn,h _ (I.tok _)⟩
theorem JF{Q:Value→Shared→Prop}(I:Inv X pins σ H s)(e:Rd H a (.dK kvs))(h:∀t s',Inv X pins σ H s'→Q (.int kvs.length t) s'):wpAny (model X.prog X.w) A (call (.builtin "len") [.ref a]) Q E s:=by obtain⟨z,hd,vs,rel,dd⟩:=gP I.hok e;refine call_len_dict hd dd (by rw[← rel.length];rw[sizeLine_eq]at z;omega) ?_;rw[← rel.length];exact h _ _ (I.tok _)
end
theorem tI{X:Cx}{pins:List (Addr×Obj)}{σ:St}{H:Hp}{s:Shared}{a:Addr}{y:V}{o:Option V}(I:Inv X pins σ H s)(g:pe H a y o):s.TypeIs (.ref a) "dict":=by
 rcases g with⟨kvs,k,e,_,_⟩|⟨kvs,k,b,e,_,_,_⟩
 ·obtain⟨_,_,vs,_,dd⟩:=gP I.hok e;exact dd.typeIs
 ·obtain⟨_,_,xs,_,dd⟩:=oA I.hok e;exact dd.typeIs
noncomputable def Iq(td ty tv:TE):TS:=fun D σ H=>tv σ H fun v H1=>td σ H1 fun x H2=>ty σ H2 fun y H3=>∃a H4,x=.ref a∧BM H3 a y v H4∧D.nx σ H4
section
variable{X:Cx}{o i e value:Expr}{pos pos' aaC:Pos}{td ty tv:TE}
theorem CQ(hu:X.A.units+1<cLine)(ho:PE X o td)(hi:PE X i ty)(hv:PE X value tv)(hs:swapsWith value (some (.Subscript o i pos')) pos.line X.env=pure false):
  PS X (.Assign [.Subscript o i pos'] value pos) (Iq td ty tv):=by
 intro pins s σ H D I h;refine wpAny_Assign_Subscript (B_ (hv pins s σ H _ I h) fun r s1 ⟨v,H1,I1,rv,q1⟩=>B_ (ho pins s1 σ H1 _ I1 q1) fun u s2 ⟨x,H2,I2,rx,q2⟩=>B_ (hi pins s2 σ H2 _ I2 q2) ?_) hs;rintro iv s3 ⟨y,H3,I3,ry,a,H4,ex,g,q3⟩;subst ex;obtain rfl:u=Value.ref a:=rx;exact yG hu I3 g ry rv fun s4 I4=>⟨σ,H4,I4,q3⟩
end
theorem tH{P:Program}{w:World}{H:Hp}(h:Heap)(hb:sysModules<h.objs.size):bN P w H (h.push { cls:=.type "dict",data:=.dict #[] }) h.objs.size (.dK []):=
 ⟨Nat.zero_le _,beq_eq_false_iff_ne.mpr (Ne.symm (Nat.ne_of_lt hb)),[],.nil,Heap.DictOf.new h⟩
def Fh:TE:=fun _ H Q=>∀p,H p=none→Q (.ref p) (upd H p (.dK []))
section
variable{X:Cx}{pos:Pos}
theorem Aw:PE X (.Dict [] [] pos) Fh:=fun pins s σ H Q I h=>wpAny_Dict_empty ⟨.ref s.heap.objs.size,_,I.laid (a:=s.heap.objs.size) (o:=.dK []) (t':=s.toks) (fun _ _ q=>Heap.get?_push_of_some _ q) (Nat.le_refl _) (tH s.heap I.big),rfl,h _ (I.hok.fresh (Nat.le_refl _))⟩
end
def qF:List (TE×TE)→St→Hp→(List (V×V)→Hp→Prop)→Prop
 |[],_,H,Q=>Q [] H
 |(tk,tv)::r,σ,H,Q=>tk σ H fun x H1=>tv σ H1 fun y H2=>qF r σ H2 fun ps H3=>Q ((x,y)::ps) H3
abbrev VV:List (V×V)→List (Value×Value)→Prop:=Paired fun p q=>aX p.1 q.1∧aX p.2 q.2
def Xe(X:Cx)(pos:Pos)(keys:List (Option Expr))(values:List Expr)(Uk:List (TE×TE)):Prop:=
 ∀(pins:List (Addr×Obj))(s:Shared)(σ:St)(H:Hp)(Q:List (V×V)→Hp→Prop),Inv X pins σ H s→qF Uk σ H Q→
  wpAny (model X.prog X.w) X.A (evalPairs (pairTrees keys values X.env pos)) (fun vs s'=>∃ps H',Inv X pins σ H' s'∧VV ps vs∧Q ps H') X.xe s
theorem CV{X:Cx}{pos:Pos}:Xe X pos [] [] []:=fun pins s σ H Q I h=>pairTrees_nil_walk ⟨[],H,I,.nil,h⟩
theorem Ak{X:Cx}{pos:Pos}{k v:Expr}{ks:List (Option Expr)}{vs:List Expr}{tk tv:TE}{Uk:List (TE×TE)}(hk:PE X k tk)(hv:PE X v tv)(hr:Xe X pos ks vs Uk):
  Xe X pos (some k::ks) (v::vs) ((tk,tv)::Uk):=fun pins s σ H Q I h=>
 pairTrees_cons_walk (B_ (hk pins s σ H _ I h) (by rintro u s1 ⟨x,H1,I1,rx,q1⟩;exact B_ (hv pins s1 σ H1 _ I1 q1) (by rintro w2 s2 ⟨y,H2,I2,ry,q2⟩;exact B_ (hr pins s2 σ H2 _ I2 q2) (by rintro ws s3 ⟨ps,H3,I3,rel,q3⟩;exact ⟨(x,y)::ps,H3,I3,.cons ⟨rx,ry⟩ rel,q3⟩))))
def cQ(kvs more:List (Key×V)):List (Key×V):=more.foldl (fun acc kv=>iS acc kv.1 kv.2) kvs
theorem KV.merge:∀{more:List (Key×V)}{rs:List (Key×Value)}{kvs:List (Key×V)}{vs:List (Key×Value)},KV more rs→KV kvs vs→KV (cQ kvs more) (merged vs rs):=by
 intro more rs kvs vs r;unfold KV at r
 induction r generalizing kvs vs with
 |nil=>intro q;exact q
 |@cons p q ps qs h t ih=>
  intro r0
  have e:KV (iS kvs p.1 p.2) (stored vs q.1 q.2):=by have:=r0.put p.1 h.2;rw[← h.1];exact this
  exact ih e
theorem fP:∀(more kvs:List (Key×V)),(cQ kvs more).length≤kvs.length+more.length
 |[],kvs=>by show kvs.length≤kvs.length+0;omega
 |p::r,kvs=>by have h1:=fP r (iS kvs p.1 p.2);have h2:=jB kvs p.1 p.2;show(cQ (iS kvs p.1 p.2) r).length≤_;rw[List.length_cons];omega
theorem oI{P:Program}{w:World}:∀{kvs:List (Key×V)}{ws:List (Value×Value)},VV (kvs.map fun kv=>(kV kv.1,kv.2)) ws→∃rs,Carries (aY P w) ws rs∧KV kvs rs
 |[],_,r=>by rw[List.map_nil]at r;cases r;exact⟨[],True.intro,.nil⟩
 |p::kvs,_,r=>by
  rw[List.map_cons]at r
  cases r with
  |@cons a b as bs h t=>obtain⟨rs,c,q⟩:=oI (P:=P) (w:=w) t;obtain⟨b1,b2⟩:=b;exact⟨(p.1,b2)::rs,⟨ke h.1,rfl,c⟩,.cons ⟨rfl,h.2⟩ q⟩
def Id(Uk:List (TE×TE)):TE:=fun σ H Q=>∀p,H p=none→qF Uk σ (upd H p (.dK [])) fun ps H2=>H2 p=some (.dK [])∧∃kvs:List (Key×V),ps=kvs.map (fun kv=>(kV kv.1,kv.2))∧kvs.length≤15∧Q (.ref p) (upd H2 p (.dK (cQ [] kvs)))
theorem wC{X:Cx}{pos:Pos}{keys:List (Option Expr)}{values:List Expr}{Uk:List (TE×TE)}(h:Xe X pos keys values Uk)(QS:keys.all (·.isSome)=true)(hl:keys.length=values.length)(h0:keys≠ [])
  (T5:keys.length≤15):PE X (.Dict keys values pos) (Id Uk):=by
 intro pins s σ H Q I q;have hn:=I.hok.fresh (Nat.le_refl s.heap.objs.size);have I1:=I.laid (a:=s.heap.objs.size) (o:=.dK []) (h':=s.heap.push { cls:=.type "dict",data:=.dict #[] }) (t':=s.toks) (fun _ _ q=>Heap.get?_push_of_some _ q) (Nat.le_refl _) (tH s.heap I.big);refine wpAny_Dict_walk (knd:=aY X.prog X.w) QS hl h0 T5 (B_ (h pins _ σ _ _ I1 (q _ hn)) ?_);rintro ws s2 ⟨ps,H2,I2,rel,e,kvs,ep,lk,q2⟩;subst ep;obtain⟨rs,c,rk⟩:=oI (P:=X.prog) (w:=X.w) rel;obtain⟨z,hd,Zy,r0,dd⟩:=tG I2.hok e
 cases r0
 refine⟨rs,c,dd,fun h' Tf hs=>⟨.ref s.heap.objs.size,_,?_,rfl,q2⟩⟩
 have hz:(cQ [] kvs).length≤sizeLine:=by have h1:=fP kvs [];rw[List.length_nil]at h1;rw[sizeLine_eq];omega
 have he:∃q,h'.get? s.heap.objs.size=some q:=let⟨q,_,_,hq,_⟩:=Tf;⟨q,hq⟩;exact lK I2 (by rw[e];exact True.intro) hs he (oE hz hd (rk.merge .nil) Tf)
structure M1(X:Cx)(o:Expr)(m:Str)(apos:Pos)(e:Expr)(G7:Pos):Prop where
 base:attributeBase o m X.env (eval o X.env)=eval o X.env
 few:((backTo G7 (starEach [e] X.env)).all (fun x=>!x.1)&&(backToKw G7 (keywordEach [] X.env)).all (fun x=>x.1.isSome)
  &&decide (([e]:List Expr).length+([]:List Keyword).length+(if([]:List Keyword).isEmpty then 0 else 1)<30))=true
 line:(apos.endLine==G7.line)=true
 trees:backTo G7 (starEach [e] X.env)=[(false,eval e X.env)]
structure M2(X:Cx)(o:Expr)(m:Str)(apos:Pos)(e f:Expr)(G7:Pos):Prop where
 base:attributeBase o m X.env (eval o X.env)=eval o X.env
 few:((backTo G7 (starEach [e,f] X.env)).all (fun x=>!x.1)&&(backToKw G7 (keywordEach [] X.env)).all (fun x=>x.1.isSome)
  &&decide (([e,f]:List Expr).length+([]:List Keyword).length+(if([]:List Keyword).isEmpty then 0 else 1)<30))=true
 line:(apos.endLine==G7.line)=true
 trees:backTo G7 (starEach [e,f] X.env)=[(false,eval e X.env),(false,eval f X.env)]
def Yb(H:Hp)(a:Addr):Prop:=(∃kvs,Rd H a (.dK kvs))∨∃kvs,Rd H a (.dT kvs)
theorem vg{X:Cx}{pins:List (Addr×Obj)}{σ:St}{H:Hp}{s:Shared}{a:Addr}(I:Inv X pins σ H s)(d:Yb H a):
  s.TypeIs (.ref a) "dict"∧(∀b,Value.ref a=.ref b→∃ob,s.heap.get? b=some ob∧ob.dict=none)∧(a==sysModules)=false:=by
 rcases d with⟨kvs,e⟩|⟨kvs,e⟩
 ·obtain⟨_,hd,vs,_,dd⟩:=gP I.hok e;refine⟨dd.typeIs,fun b q=>?_,hd⟩
  cases q
  obtain⟨ob,_,_,h1,h2,_⟩:=dd;exact⟨ob,h1,h2.2.1⟩
 ·obtain⟨_,hd,xs,_,dd⟩:=oA I.hok e;refine⟨dd.typeIs,fun b q=>?_,hd⟩
  cases q
  obtain⟨ob,_,_,h1,h2,_⟩:=dd;exact⟨ob,h1,h2.2.1⟩
section
variable{X:Cx}{pins:List (Addr×Obj)}{σ:St}{H:Hp}{s:Shared}{a:Addr}{y d:V}{u r:Value}{o:Option V}{A:Around}{E:Value→Shared→Prop}
theorem Ht{Q:Value→Shared→Prop}(hu:A.units+1<cLine)(I:Inv X pins σ H s)(g:pe H a y o)(ry:aX y u)(rd:aX d r)(h:∀w' s',Inv X pins σ H s'→aX (o.getD d) w'→Q w' s'):
  wpAny (model X.prog X.w) A (call (.builtin "dict.get") [.ref a,u,r]) Q E s:=by
 rcases g with⟨kvs,k,e,ey,l⟩|⟨kvs,k,b,e,ey,eb,l⟩
 ·subst ey;obtain⟨z,hd,vs,rel,dd⟩:=gP I.hok e;refine call_meetsIn PySem.F.slot_dict_get dd.typeIs PySem.F.entry_dict_get (PySem.F.args_dict_get_3 _ _ _) (meets_dict_get_default (aY X.prog X.w) a (ke ry) hd r) ⟨_,dd.mapOf,h _ _ (I.tok _) ?_⟩;rw[l];exact(rel.val k).getD rd
 ·subst ey
  cases(show u=Value.ref b from ry)
  obtain⟨z,hd,xs,rel,dd⟩:=oA I.hok e;refine call_meetsIn PySem.F.slot_dict_get dd.typeIs PySem.F.entry_dict_get (PySem.F.args_dict_get_3 _ _ _) (meetsH_dict_get_default (tupleKind (aY X.prog X.w)) a b hd r) ⟨tupleKind_room_in1 hu,k,xs,mj I.hok eb,dd,h _ _ (I.tok _) ?_⟩;rw[l];exact(rel.val k).getD rd
end
noncomputable def Fi(td ty tx:TE):TE:=fun σ H Q=>td σ H fun x H1=>∃a,x=.ref a∧Yb H1 a∧ty σ H1 fun y H2=>tx σ H2 fun z H3=>∃o,pe H3 a y o∧Q (o.getD z) H3
def Fg(td ty tx:TE):TE:=fun σ H Q=>td σ H fun x H1=>∃a,x=.ref a∧Yb H1 a∧ty σ H1 fun y H2=>tx σ H2 fun z H3=>∃kvs k,H3 a=some (.dK kvs)∧y=kV k∧
 (∀v,iP kvs k=some v→Q v (upd H3 a (.dK (lH kvs k))))∧(iP kvs k=none→Q z H3)
section
variable{X:Cx}{o e f:Expr}{apos G7:Pos}{td ty tx:TE}
theorem Ay(hu:X.A.units+1<cLine)(ho:PE X o td)(he:PE X e ty)(hf:PE X f tx)(m:M2 X o "get" apos e f G7):PE X (.Call (.Attribute o "get" apos) [e,f] [] G7) (Fi td ty tx):=by
 intro pins s σ H Q I h;refine wpAny_Call_method m.base m.few m.line PySem.F.plainAttrs_dict PySem.F.slot_dict_get PySem.F.type_dict_get (B_ (ho pins s σ H _ I h) ?_);rintro u s1 ⟨x,H1,I1,rx,a,ex,d,q1⟩;subst ex;obtain rfl:u=Value.ref a:=rx;obtain⟨t1,t2,_⟩:=vg I1 d;refine⟨t1,t2,?_⟩;rw[m.trees]
 refine Calls.callWith_builtin rfl (Calls.evalArgs_plain (Calls.spliced_cons (B_ (he pins s1 σ H1 _ I1 q1) fun iv s2 ⟨y,H2,I2,ry,q2⟩=>Calls.spliced_cons (B_ (hf pins s2 σ H2 _ I2 q2) fun fv s3 ⟨z,H3,I3,rz,ov,g,q3⟩=>Calls.spliced_nil ?_))))
 exact Ht hu I3 g ry rz fun w' s4 I4 Rh=>⟨_,H3,I4,Rh,q3⟩
theorem Av(ho:PE X o td)(he:PE X e ty)(hf:PE X f tx)(m:M2 X o "pop" apos e f G7):PE X (.Call (.Attribute o "pop" apos) [e,f] [] G7) (Fg td ty tx):=by
 intro pins s σ H Q I h;refine wpAny_Call_method m.base m.few m.line PySem.F.plainAttrs_dict PySem.F.slot_dict_pop PySem.F.type_dict_pop (B_ (ho pins s σ H _ I h) ?_);rintro u s1 ⟨x,H1,I1,rx,a,ex,d,q1⟩;subst ex;obtain rfl:u=Value.ref a:=rx;obtain⟨t1,t2,_⟩:=vg I1 d;refine⟨t1,t2,?_⟩;rw[m.trees]
 refine Calls.callWith_builtin rfl (Calls.evalArgs_plain (Calls.spliced_cons (B_ (he pins s1 σ H1 _ I1 q1) fun iv s2 ⟨y,H2,I2,ry,q2⟩=>Calls.spliced_cons (B_ (hf pins s2 σ H2 _ I2 q2) fun fv s3 ⟨z,H3,I3,rz,kvs,k,ea,ey,q3,q4⟩=>Calls.spliced_nil ?_))))
 subst ey
 cases l:iP kvs k with
 |some v=>exact JE I3 ea ry l (.inr ⟨fv,rfl⟩) fun w' s4 I4 Rh=>⟨v,_,I4,Rh,q3 v l⟩
 |none=>exact Hs I3 ea ry l fun s4 I4=>⟨z,H3,I4,rz,q4 l⟩
end
end L2
namespace Att
open PySem PySem.W PySem.Calls PyProof.Rows
theorem mM{P:Params}{h:Heap}:∀(ns:List Int)(vs:List Value),WellAll P h vs (ns.map WData.int)→IntsAre vs ns:=by
 intro ns
 induction ns with
 |nil=>
  intro vs w;rw[List.map_nil]at w
  cases w
  exact .nil
 |cons n ns ih=>
  intro vs w;rw[List.map_cons]at w
  cases w with
  |cons a b=>
   cases a
   exact .cons _ _ (ih _ b)
theorem xQ{l:OpenLaw}{n:Nat}(hn:l.most=some n){P:Params}{h:Heap}{args:List WData}{Vg:List Value}
  (Uv:l.row.toRowW.claim.pre args=true) (Yy:WellAll P h Vg args):
  ∃a vs ns,Vg= [Value.ref a]∧args= [WData.list (ns.map WData.int)]∧h.get? a=some { cls:=.type "list",data:=.seq vs.toArray }∧IntsAre vs ns∧ns.length≤n:=by
 have YB:WShape.hasAll [] args [.list .int]=true:=(pre_splitW Uv).1;have hc:l.pre.holds [] { args:=args }=true:=(pre_splitW Uv).2;obtain⟨d,r,rfl,h1,h2⟩:=hasAllW_cons YB;obtain rfl:=hasAllW_nil h2;obtain⟨xs,rfl,h3⟩:=hasW_list h1;obtain⟨ns,rfl⟩:=items_int h3
 have E_:ns.length≤n:=by
  unfold OpenLaw.pre at hc
  have h4:(WTm.not (.lt (.lit (.int (n:Int))) (.len (.arg 0)))).holds [] { args:=[.list (ns.map .int)] }=true:=by have h4:=(holds_andW hc).1;rw[hn]at h4;exact h4
  have h5:=condW_of h4 (w_not (w_lt w_lit (w_len_list (w_arg rfl))));rw[List.length_map]at h5;refine Nat.le_of_not_lt fun q=>?_;have q':(n:Int)<((ns.length:Nat):Int):=by omega
  first
   |(rw[decide_eq_true q']at h5;exact absurd h5 (by decide))
   |(simp at h5;omega)
 cases Yy with
 |cons w1 w2=>
  cases w2
  cases w1 with
  |list ho QS=>exact⟨_,_,ns,rfl,rfl,ho,mM ns _ QS,E_⟩
theorem ye(l:OpenLaw)(args:List WData):l.row.toRowW.claim.post args (.bool true) args=true:=
 postW_of (r:=l.row.toRowW) (X:=(true==true))
  (show WShape.has [] (.bool true) .bool=true by first|rfl|decide|simp[WShape.has,WShape.arms,WShape.armsAll])
  (show(WTm.eq .res (.lit (.bool true))).value [] { args:=args,res:=some (.bool true),after:=args }=some (.bool (true==true))from w_eq_bool (w_res rfl) w_lit) rfl
theorem Sd{l:OpenLaw}{n:Nat}{q:Program}{loose:List Str}{XP:(Str→Option Value)→Heap→Prop}{YP:World→Heap→Prop}{d:DefRec}
  (hn:l.most=some n) (W3:d.params.defaults= [])
  (call:∀(w:World)(s₀ s₁:Shared)(mg mb:Str→Option Value)(fa:Addr)(o:Obj)(pm cd doc:Value)(a:Addr)(vs:List Value)(ns:List Int),
   Ground q loose [] XP w s₀ mg mb s₁.heap→YP w s₁.heap→
   s₁.heap.get? fa=some o→o.data=.func (docDef d.name d.params d.body d.scope pm cd doc)→s₁.heap.CodeRec cd d.name→mg d.name=some (.ref fa)→
   s₁.heap.get? a=some { cls:=.type "list",data:=.seq vs.toArray }→IntsAre vs ns→ns.length≤n→s₁.gens= #[]→
   codeAny (model l.prog w) callerA (.call (.ref fa) ⟨[.ref a],[]⟩) (fun r s'=>r=.ok (.ret (.bool true))∧OldK s₁.heap s'.heap∧s'.os=s₁.os∧AllBare s'.gens) s₁):
  WalkO q loose XP YP l.row.toRowW d [] (fun f vs=>PySem.call f vs):=by
 intro w s₀ s₁ mg mb G Y fa o pm cd doc dV kV ho hd T3 hD WT hg args Vg as Uv abj hrd Yy hlo;obtain rfl:dV=.none:=Dflts.none hD W3;obtain rfl:kV=.none:=Dflts.noKw hD;obtain⟨a,vs,ns,rfl,rfl,Vs,hints,E_⟩:=xQ hn Uv Yy;refine enter_call (codeAny_mono (call w s₀ s₁ mg mb fa o pm cd doc a vs ns G Y ho (fd_plain hd) T3 WT Vs hints E_ hg) fun r s' hq=>?_);obtain⟨rfl,h2,h3,h4⟩:=hq;exact⟨.inl ⟨.bool true,.bool true,[],rfl,fun _=>rfl,.bool true,ye l _,fun _=>⟨List.Pairwise.nil,fun _ hm=>(nomatch hm)⟩⟩,h2,h3,h4⟩
end Att
namespace L2
open PySem PySem.Spec PyProof.Rows
theorem pf:∀{vs:List Value}{ns:List Int},IntsAre vs ns→aR (ns.map V.int) vs
 |_,_,.nil=>.nil
 |_,_,.cons n t h=>.cons ⟨t,rfl⟩ (pf h)
def HF(H:Hp):Prop:=∀b,H b=none∨∃o xs,H b=some (.Py o (.lst xs))
theorem AX{P:Program}{w:World}{K:W.Frag}{mg mb:Str→Option Value}{CX:Ua}{k:Nat}{fa a:Addr}{fd:FuncData}{x:Str}{sp:Sp}{s₁:Shared}{vs:List Value}{ns:List Int}
  (KX:K.In s₁.heap) (hns:s₁.heap.Ns mainGlobals mg) (hb:s₁.heap.Ns builtinsNs mb) (hbb:∀x:Str,x≠"__name__"→mb x=bootBuiltins x) (YJ:s₁.heap.NoLimit) (hg:s₁.gens= #[])
  (ha:s₁.heap.get? a=some { cls:=.type "list",data:=.seq vs.toArray }) (hi:IntsAre vs ns) (hl:ns.length≤sizeLine) (hr:dR k callerA)
  (F:∀base:Heap,K.In base→base.Ns mainGlobals mg→eD P w K mg base CX k fa fd [x] sp) (W5:∀(s:Shared)(u:Value),BindsTo s fd ⟨[u],[]⟩ [(x,u)])
  (U7:∀H:Hp,HF H→Mq K H a (ns.map V.int)→sp [.ref a] H (fun v _=>v=.bl true) fun _ _ _=>False)
  (Y8:∀H e s',CX [] H s₁ (fun _ _ _=>False) e s'→False):
  codeAny (model P w) callerA (.call (.ref fa) ⟨[.ref a],[]⟩) (fun r s'=>r=.ok (.ret (.bool true))∧OldK s₁.heap s'.heap∧s'.os=s₁.os∧AllBare s'.gens) s₁:=by
 have rv:=pf hi;have Yt:=hi.length
 have core:∀H:Hp,HF H→Mq K H a (ns.map V.int)→Oc P w H s₁.heap→(∀b,H b≠none→b=a)→(H a≠none→K.lookup a=none)→
   codeAny (model P w) callerA (.call (.ref fa) ⟨[.ref a],[]⟩) (fun r s'=>r=.ok (.ret (.bool true))∧OldK s₁.heap s'.heap∧s'.os=s₁.os∧AllBare s'.gens) s₁:=by
  intro H hO hS hok hA hK;have Te:∀{b:Addr}{o:Obj},s₁.heap.get? b=some o→H b=none→(qV s₁.heap H).get? b=some o:=fun e n=>Bg e n
  have Ww:∀{b:Addr}{o:Obj}{es:Array DictEntry}{ep:Nat},s₁.heap.get? b=some o→o.data=.dict es ep→H b=none:=fun{b o es ep} e d=>by
   cases q:H b with
   |none=>rfl
   |some u=>
    have e':b=a:=hA b (by rw[q];simp);subst e';rw[ha]at e;cases e;have d':Data.seq vs.toArray _=Data.dict es ep:=d
    cases d'
  have Xv:∀{b:Addr}{m:Str→Option Value},s₁.heap.Ns b m→(qV s₁.heap H).Ns b m:=fun{b m} ⟨o,es,ep,e,d,r⟩=>⟨o,es,ep,Te e (Ww e d),d,r⟩
  have hKb:K.In (qV s₁.heap H):=fun b o e=>Te (KX b o e) (by
   cases q:H b with
   |none=>rfl
   |some u=>have e':b=a:=hA b (by rw[q];simp);subst e';rw[hK (by rw[q];simp)]at e;cases e)
  have hM:Mod K mg (qV s₁.heap H):=⟨hKb,Xv hns,⟨mb,Xv hb,hbb⟩,let⟨mc,h1,h2⟩:=YJ;⟨mc,Xv h1,h2⟩⟩
  have e0:Eo P w K mg (qV s₁.heap H) callerA [] s₁ H:=⟨rfl,hM,fun b o e=>Dq e,Nat.le_of_eq (yD _ _),trivial,fun b hb=>absurd (show b∈([]:List Addr)from hb) (by simp),hok,.of_eq hg⟩
  refine codeAny_mono ((F _ hKb (Xv hns)).run callerA [] s₁ H ⟨[.ref a],[]⟩ [.ref a] [.ref a] _ _ hr e0 (W5 s₁ (.ref a)) (.cons rfl .nil) (U7 H hO hS)) fun r s' h=>?_
  cases r with
  |error e=>exact(Y8 H e s' h).elim
  |ok fl=>
   cases fl with
   |next=>exact False.elim h
   |brk=>exact False.elim h
   |cont=>exact False.elim h
   |ret u=>
    obtain⟨v,H',os,bare,un,YD,r',q⟩:=h;have q':v=.bl true:=q;subst q';obtain rfl:u=Value.bool true:=r';refine⟨rfl,OldK.of_keep fun b o e=>?_,os,bare⟩
    cases q:H b with
    |none=>exact un.keep b o e q (by intro z;exact absurd (show b∈([]:List Addr)from z) (by simp)) (by simp)
    |some u=>
     rcases hO b with z|⟨ob,xs,z⟩
     ·rw[q]at z;cases z
     ·have z2:=un.Ms b ob _ z;obtain⟨e1,_⟩:=hok b _ z;obtain⟨e2,_⟩:=YD b _ z2;rw[e]at e1;cases e1;exact e2
 cases hk:K.lookup a with
 |some o=>
  have e:=KX a o hk;rw[ha]at e
  cases e
  refine core (fun _=>none) (fun _=>.inl rfl) (.inr ⟨_,vs.toArray,_,hk,rfl,rfl,rfl,by rw[List.size_toArray,Yt];exact hl,by simpa using rv⟩) (fun b u z=>by have z':(none:Option HO)=some u:=z;cases z') (fun b z=>absurd rfl z) fun z=>absurd rfl z
 |none=>
  refine core (fun b=>if b=a then some (.Py { cls:=.type "list",data:=.seq vs.toArray } (.lst (ns.map V.int)))else none) (fun b=>?_) (.inl (.inr ⟨{ cls:=.type "list",data:=.seq vs.toArray },if_pos rfl⟩)) (fun b u z=>?_) (fun b z=>?_) fun _=>hk
  ·by_cases hb:b=a
   ·exact .inr ⟨_,_,if_pos hb⟩
   ·exact .inl (if_neg hb)
  ·by_cases hb:b=a
   ·have z':=(if_pos hb).symm.trans z
    cases z'
    subst hb;exact⟨ha,by rw[List.length_map];exact hl,vs,_,rv,ha⟩
   ·have z':=(if_neg hb).symm.trans z
    cases z'
  ·by_cases hb:b=a
   ·exact hb
   ·exact absurd (if_neg hb) z
theorem BR{l:W.OpenLaw}{n k:Nat}{q:Program}{loose:List Str}{XP:(Str→Option Value)→Heap→Prop}{YP:World→Heap→Prop}{d:DefRec}{K:Params→W.Frag}{CX:World→Ua}{sp:World→Sp}{x:Str}
  (hn:l.most=some n) (hn2:n≤sizeLine) (W3:d.params.defaults= []) (hr:dR k callerA)
  (hY:∀(w:World)(h:Heap),YP w h→(K w.params).In h)
  (F:∀(w:World)(mg:Str→Option Value)(fa:Addr)(h:Heap),(K w.params).In h→h.Ns mainGlobals mg→mg d.name=some (.ref fa)→
   ∃fd:FuncData,(∀(s:Shared)(u:Value),BindsTo s fd ⟨[u],[]⟩ [(x,u)])∧
    ∀base:Heap,(K w.params).In base→base.Ns mainGlobals mg→eD l.prog w (K w.params) mg base (CX w) k fa fd [x] (sp w))
  (U7:∀(w:World)(H:Hp)(a:Addr)(ns:List Int),ns.length≤n→HF H→Mq (K w.params) H a (ns.map V.int)→sp w [.ref a] H (fun v _=>v=.bl true) fun _ _ _=>False)
  (Y8:∀(w:World)(H:Hp)(s:Shared)(e:Value)(s':Shared),CX w [] H s (fun _ _ _=>False) e s'→False):
  W.WalkO q loose XP YP l.row.toRowW d [] (fun f vs=>PySem.call f vs):=by
 refine Att.Sd hn W3 fun w s₀ s₁ mg mb fa o pm cd doc a vs ns G Y ho hd T3 WT Vs hints E_ hg=>?_;have KX:=hY w _ Y;obtain⟨fd,hb,hF⟩:=F w mg fa _ KX G.T.g WT;exact AX KX G.T.g G.T.b G.T.builtins G.T.nolimit hg Vs hints (Nat.le_trans E_ hn2) hr hF hb (fun H hO hS=>U7 w H a ns E_ hO hS) fun H e s'=>Y8 w H s₁ e s'
noncomputable def dI(s:Stmt)(j:Nat):Stmt:=match s with
 |.ClassDef _ _ _ body _ _ _ _ _ _ _=>body.getD j (.Pass ⟨0,0,0,0⟩)
 |_=>.Pass ⟨0,0,0,0⟩
noncomputable def jY(s:Stmt):Arguments:=match s with
 |.FunctionDef _ a _ _ _ _ _ _ _ _=>a
 |_=> { posonlyargs:=[],args:=[],vararg:=none,kwonlyargs:=[],kw_defaults:=[],kwarg:=none,defaults:=[] }
noncomputable def eg(s:Stmt):List Stmt:=match s with
 |.FunctionDef _ _ b _ _ _ _ _ _ _=>b
 |_=> []
noncomputable def aV(s:Stmt):Scope:=match s with
 |.FunctionDef _ _ _ _ _ _ sc _ _ _=>sc
 |_=> { kind:=.function,names:=[],isGenerator:=false,isCoroutine:=false }
abbrev Pg:Ua:=fun _ _ _ _ _ _=>False
abbrev E0:XK:=fun _ _ _=>False
theorem sJ{X:Cx}:rO Pg X E0:=fun _ _ _ _ _ _ _ h=>h.elim
structure T9(K:W.Frag)(x C_:Str)(st:Stmt)(f:Addr)(fd:FuncData):Prop where
 ex:∃(oc:Value)(od:Option Addr)(kV doc pm:Value)(an:Option Addr)(K8 ct:Value)(Ud:Array (Option Value)),
  fd=W.fnOf x C_ (jY st) (eg st) (aV st) .none kV doc pm an K8 ct∧K.lookup f=some ⟨oc,od,.func fd,Ud⟩∧W.codeIn K K8 C_=true
 kp:W.keepIn K (.ref f)=true
section
variable{P:Program}{w:World}{K:W.Frag}{mg:Str→Option Value}{base:Heap}
theorem T9.ok{x C_:Str}{st:Stmt}{f:Addr}{fd:FuncData}{N ps:List Str}{k:Nat}{sp:Sp}(F:T9 K x C_ st f fd)(S:jd N ps (aV st))(len:∀vs H Q E,sp vs H Q E→vs.length=ps.length)
  (T4:∀(K8:Value)(A:Around)(outer:List Env)(s:Shared)(H:Hp)(vs:List V)(Q:VK)(E:XK),dR k (A.deeper (envOfC C_ (aV st) s.heap.objs.size f K8))→sp vs H Q E→
   ∃t,RK (oG Pg P w K mg base N C_ (aV st) f K8 A outer s H E).Ur (eg st) t∧t { nx:=fun _ H'=>Q .non H',rt:=Q } (hZ N vs) H):eD P w K mg base Pg (k+1) f fd ps sp:=by
 obtain⟨oc,od,kV,doc,pm,an,K8,ct,Ud,rfl,lk,T3⟩:=F.ex;refine Jr lk T3 S len fun A outer s H vs Q E hr U7=>?_;obtain⟨t,h,q⟩:=T4 K8 A outer s H vs Q E hr U7;exact⟨t,h.Ur,q⟩
theorem T9.binds{x C_:Str}{st:Stmt}{f:Addr}{fd:FuncData}{ps:List Str}(F:T9 K x C_ st f fd)
  (h:∀(kV doc pm:Value)(an:Option Addr)(K8 ct:Value)(us:List Value),us.length=ps.length→bindArgs (W.fnOf x C_ (jY st) (eg st) (aV st) .none kV doc pm an K8 ct) ⟨us,[]⟩=pure (ps.zip us)):ga K fd ps []:=by
 obtain⟨oc,od,kV,doc,pm,an,K8,ct,Ud,rfl,lk,T3⟩:=F.ex;exact .all (h kV doc pm an K8 ct)
theorem Bj{x C_:Str}{st:Stmt}{f:Addr}{oc:Value}{od an:Option Addr}{Ud:Array (Option Value)}{kV doc pm K8 ct:Value}(l:K.lookup f=some ⟨oc,od,.func (W.fnOf x C_ (jY st) (eg st) (aV st) .none kV doc pm an K8 ct),Ud⟩)
  (c:W.codeIn K K8 C_=true) (k:W.keepIn K (.ref f)=true):T9 K x C_ st f (W.fnOf x C_ (jY st) (eg st) (aV st) .none kV doc pm an K8 ct):=⟨⟨oc,od,kV,doc,pm,an,K8,ct,Ud,rfl,l,c⟩,k⟩
end
theorem uZ{A B:Prop}(h:B):if false=true then A else B:=by rw[if_neg Bool.false_ne_true];exact h
theorem uY{A B:Prop}(h:A):if true=true then A else B:=by rw[if_pos rfl];exact h
def cy(H H':Hp):Prop:=∀b o,H b=some o→H' b=some o
theorem cy.refl(H:Hp):cy H H:=fun _ _ h=>h
theorem cy.trans{H H1 H2:Hp}(a:cy H H1)(b:cy H1 H2):cy H H2:=fun c o h=>b c o (a c o h)
theorem cy.free{H H':Hp}(e:cy H H'){l:Addr}(h:H' l=Option.none):H l=Option.none:=by
 cases q:H l with
 |none=>rfl
 |some o=>
  rw[e l o q]at h
  cases h
theorem cy.seq{K:W.Frag}{H H':Hp}{a:Addr}{xs:List V}(e:cy H H')(h:Mq K H a xs):Mq K H' a xs:=by
 rcases h with(h|⟨o,h⟩)|h
 ·exact .inl (.inl (e _ _ h))
 ·exact .inl (.inr ⟨o,e _ _ h⟩)
 ·exact .inr h
end L2
set_option maxHeartbeats 4000000
namespace L2
open PySem PySem.Spec PyProof.Rows
noncomputable def Its(x:Str):It:=⟨fun i _=>i<x.cps.size,fun i H v H'=>H'=H∧∃c,x.cps[i]? =some c∧v=.str ⟨#[c]⟩,fun i _=>i=x.cps.size⟩
theorem rW{P:Program}{w:World}{K:W.Frag}{tg:Expr}{ty:String}(it:Addr)(x:Str)(t:Tok)
  (W:∀A:Around,A.handled=none→Walks P w A it [it] [it] x.cps.size (SignAt x) (fun i h=>h.IsStrIter it ty x t i))
  (WR:∀(A:Around)(i:Nat)(s:Shared)(Q:Value→Shared→Prop)(E:Value→Shared→Prop),s.heap.IsStrIter it ty x t i→Q (.ref it) s→wpAny (model P w) A (pyIter (.ref it)) Q E s)
  (Uu: ["enumerate","zip","dict_itemiterator","dict_reverseitemiterator","odict_iterator","itertools.zip_longest","itertools.pairwise"].contains ty=false):
  rM P w K tg (Its x) [it] it (fun i h=>h.IsStrIter it ty x t i) where
 mem:=by simp
 obj:=fun i h st b hb=>by
  have e:b=it:=by simpa using hb
  subst e;obtain⟨o,e,c,d⟩:=st;exact⟨o,e,fun v z=>by rw[d]at z;cases z⟩
 keep:=fun i h h' st k=>by obtain⟨o,e,r⟩:=st;exact⟨o,k it (by simp) o e,r⟩
 item:=by intro X hP hw hK hc i pins s σ H E I hf st hg;subst hP hw hK;obtain⟨f0,f1,f2,f3,f4,f5⟩:=hf it (by simp);refine(W X.A (I.ok.hd hc)).item i s _ _ hg st fun v h' tk hv Qt kk=>?_;obtain⟨c,u,hcx,rfl⟩:=hv;have I1:Inv X pins σ H { s with heap:=h',toks:=tk }:=I.turned (fun b o hb e=>kk b o (by simpa using hb) e) f0 f1 f3 f4 f5;obtain⟨o,e,cc,d⟩:=id Qt;exact⟨_,rfl,qd (s:={ s with heap:=h',toks:=tk }) e cc d Uu ⟨.str ⟨#[c]⟩,H,I1,⟨u,rfl⟩,⟨rfl,c,hcx,rfl⟩,Qt,fun b hb=>(hf b hb).1⟩⟩
 done:=by intro X hP hw hK hc i pins s σ H E I hf st hg;subst hP hw hK;obtain⟨f0,f1,f2,f3,f4,f5⟩:=hf it (by simp);have hg':i=x.cps.size:=hg;subst hg';exact(W X.A (I.ok.hd hc)).done s _ _ st fun h' tk kk=>⟨rfl,I.turned (fun b o hb e=>kk b o (by simpa using hb) e) f0 f1 f3 f4 f5⟩
 self:=WR
section
variable{X:Cx}{tg:Expr}
def KY(ts:TE):TI:=fun σ H R=>ts σ H fun v H1=>∃x,v=.str x∧R (Its x) H1
theorem Gn{l:Expr}{tl:TE}(hl:PE X l tl):PI X tg l (KY tl):=by
 intro pins s σ H R I h;refine B_ (hl pins s σ H _ I h) ?_;rintro v s1 ⟨x,H1,I1,r1,q1⟩;obtain⟨z,e,q⟩:=q1;subst e;obtain⟨t,rfl⟩:=r1
 cases ha:z.cps.all (· <128)
 ·refine wpAny_pyIter_wide ha ?_;refine⟨s1.heap.objs.size,[s1.heap.objs.size],_,_,H1,rfl,I1.kept (t':=s1.toks) fun b o e=>Heap.get?_push_of_some _ e,rW _ z t (fun A hA=>Walks.strWide hA _ z t) (fun _ _ _ _ _ st h=>wpAny_pyIter_striter_wide st h) (by decide),⟨_,Heap.get?_push_size _ rfl,rfl,rfl⟩,fun b hb=>?_,q⟩;have e:b=s1.heap.objs.size:=by simpa using hb
  subst e;exact I1.QV (Nat.le_refl _) (I1.hok.fresh (Nat.le_refl _))
 ·refine wpAny_pyIter_ascii ha ?_;refine⟨s1.heap.objs.size,[s1.heap.objs.size],_,_,H1,rfl,I1.kept (t':=s1.toks) fun b o e=>Heap.get?_push_of_some _ e,rW _ z t (fun A hA=>Walks.strAscii hA _ z t) (fun _ _ _ _ _ st h=>wpAny_pyIter_striter_ascii st h) (by decide),⟨_,Heap.get?_push_size _ rfl,rfl,rfl⟩,fun b hb=>?_,q⟩;have e:b=s1.heap.objs.size:=by simpa using hb
  subst e;exact I1.QV (Nat.le_refl _) (I1.hok.fresh (Nat.le_refl _))
end
noncomputable def eJ(cells:List (Str×Addr)):List (Str×NameKind)→List (Str×Addr)→List (Str×Addr)
 |[],cs=>cs
 |(n,k)::r,cs=>eJ cells r (if k==.free then(match cells.lookup n with|some a=>(n,a)::cs|none=>cs)else cs)
theorem kg{scope:Scope}{env:Env}(h:∀n,(n,NameKind.free)∈scope.names→∃c,env.cells.lookup n=some c):closureFor scope env=pure (eJ env.cells scope.names []):=by
 unfold closureFor
 have go:∀(l:List (Str×NameKind))(cs:List (Str×Addr)),(∀n,(n,NameKind.free)∈l→∃c,env.cells.lookup n=some c)→
   (forIn l cs fun x r=>if(x.2==NameKind.free)=true then do let a ← cellOf env x.1;pure (ForInStep.yield ((x.1,a)::r))else pure (ForInStep.yield r):Sem (List (Str×Addr)))=pure (eJ env.cells l cs):=by
  intro l
  induction l with
  |nil=>intro cs _;rfl
  |cons x r ih=>
   intro cs hl;obtain⟨n,k⟩:=x;rw[List.forIn_cons];have hr:∀n,(n,NameKind.free)∈r→∃c,env.cells.lookup n=some c:=fun y hy=>hl y (List.mem_cons_of_mem _ hy)
   by_cases hk:k=.free
   ·subst hk;obtain⟨c,hc⟩:=hl n List.mem_cons_self;have e:cellOf env n=pure c:=by unfold cellOf;rw[hc]
    simp only[beq_self_eq_true,if_true,e,pure_bind,eJ,hc];exact ih _ hr
   ·have hb:(k==NameKind.free)=false:=by simpa using hk
    simp only[hb,Bool.false_eq_true,if_false,pure_bind,eJ];exact ih _ hr
 have q:=go scope.names [] h;simp only[bind_pure];exact q
theorem qm(cells:List (Str×Addr)):∀(l:List (Str×NameKind))(cs:List (Str×Addr))(p:Str×Addr),p∈eJ cells l cs→p∈cs∨(cells.lookup p.1=some p.2∧(p.1,NameKind.free)∈l)
 |[],cs,p,h=>.inl h
 |(n,k)::r,cs,p,h=>by
  unfold eJ at h;rcases qm cells r _ p h with q|⟨q1,q2⟩
  ·by_cases hk:k=.free
   ·subst hk;simp only[beq_self_eq_true,if_true]at q
    cases e:cells.lookup n with
    |none=>rw[e]at q;exact .inl q
    |some a=>
     rw[e]at q;rcases List.mem_cons.mp q with rfl|q
     ·exact .inr ⟨e,List.mem_cons_self⟩
     ·exact .inl q
   ·have hb:(k==NameKind.free)=false:=by simpa using hk
    simp only[hb,Bool.false_eq_true,if_false]at q;exact .inl q
  ·exact .inr ⟨q1,List.mem_cons_of_mem _ q2⟩
theorem qk(cells:List (Str×Addr)):∀(l:List (Str×NameKind))(cs:List (Str×Addr))(p:Str×Addr),p∈cs→p∈eJ cells l cs
 |[],_,_,h=>h
 |(n,k)::r,cs,p,h=>by
  unfold eJ;refine qk cells r _ p ?_
  split
  ·split
   ·exact List.mem_cons_of_mem _ h
   ·exact h
  ·exact h
theorem qo(cells:List (Str×Addr)){x:Str}{c:Addr}(hc:cells.lookup x=some c):∀(l:List (Str×NameKind))(cs:List (Str×Addr)),(x,NameKind.free)∈l→(x,c)∈eJ cells l cs
 |(n,k)::r,cs,h=>by
  unfold eJ;rcases List.mem_cons.mp h with e|h
  ·cases e
   refine qk cells r _ _ ?_;simp only[beq_self_eq_true,if_true,hc];exact List.mem_cons_self
  ·exact qo cells hc r _ h
theorem kc{x:Str}{c:Addr}:∀{l:List (Str×Addr)},(x,c)∈l→∃c',l.lookup x=some c'
 |(y,d)::r,h=>by
  by_cases e:x=y
  ·subst e;exact⟨d,by simp[List.lookup_cons]⟩
  ·have hb:(x==y)=false:=by simpa using e
   rw[List.lookup_cons,hb];rcases List.mem_cons.mp h with q|q
   ·cases q;exact absurd rfl e
   ·exact kc q
theorem fK{cells:List (Str×Addr)}{l:List (Str×NameKind)}{x:Str}{c:Addr}(h:(eJ cells l []).lookup x=some c):cells.lookup x=some c∧(x,NameKind.free)∈l:=by
 rcases qm cells l [] (x,c) (PySem.mem_of_lookup h)with q|q
 ·cases q
 ·exact q
theorem tQ{cells:List (Str×Addr)}{l:List (Str×NameKind)}{x:Str}{c:Addr}(hc:cells.lookup x=some c)(h:(x,NameKind.free)∈l):(eJ cells l []).lookup x=some c:=by obtain⟨c',e⟩:=kc (qo cells hc l [] h);rw[e,← hc,(fK e).1]
def Xf(X:Cx)(ifs:List Expr)(t:TT):Prop:=
 ∀(pins:List (Addr×Obj))(s:Shared)(σ:St)(H:Hp)(Q:Bool→Hp→Prop),Inv X pins σ H s→t σ H Q→
  wpAny (model X.prog X.w) X.A (forIn ifs true fun c r=>if r=true then do let ok ← isTrue c X.env (eval c X.env);pure (ForInStep.yield ok)else pure (ForInStep.yield r)) (TP X pins σ Q) X.xe s
noncomputable def Kt:TT:=fun _ H Q=>Q true H
theorem Gr{X:Cx}:Xf X [] Kt:=fun _ _ _ H _ I h=>wpAny_tests_nil ⟨H,I,h⟩
theorem Gq{X:Cx}{c:Expr}{t:TT}(h:PT X c t):Xf X [c] t:=fun pins s σ H Q I hw=>wpAny_tests_one (h pins s σ H Q I hw)
noncomputable def dF(X:Cx)(N:List Str)(scope:Scope)(cl:List (Str×Addr))(C:Addr)(ex:List Addr)(s:Shared)(H:Hp):Cx where
 prog:=X.prog
 w:=X.w
 K:=X.K
 mg:=X.mg
 base:=X.base
 A:=X.A
 N:=N
 s₀:=s
 H₀:=H
 env:=compEnvC scope cl C X.env
 outer:=X.stack
 stack:=X.stack
 ex:=ex
 fn:=fun _=>false
 calm:=true
 pn:=[]
 xe:=fun _ _=>False
structure hG(N:List Str)(TV scope:Scope)(j6:List Nat)(x:Str)(M:List Str):Prop where
 kind:scope.kind=.function
 Ro:∀y∈scope.names,y.2≠.cell
 names:∀y∈scope.names,y.2=.local→scope.names.lookup y.1=some .local
 var:scope.names.lookup x=some .local
 free:∀y∈scope.names,y.2=.free→TV.names.lookup y.1=some .cell∨TV.names.lookup y.1=some .free
 inN:M=x::j6.map fun i=>N.getD i ""
 cap:∀i∈j6,i<N.length∧scope.names.lookup (N.getD i "")=some .free
 nd:M.Nodup
noncomputable def rn(N:List Str)(TV scope:Scope)(j6:List Nat)(x:Str)(M:List Str):Bool:=
 decide (scope.kind=.function)&&decide (∀y∈scope.names,y.2≠.cell)&&decide (∀y∈scope.names,y.2=.local→scope.names.lookup y.1=some .local)&&decide (scope.names.lookup x=some .local)
  &&decide (∀y∈scope.names,y.2=.free→TV.names.lookup y.1=some .cell∨TV.names.lookup y.1=some .free)&&decide (M=x::j6.map fun i=>N.getD i "")
  &&decide (∀i∈j6,i<N.length∧scope.names.lookup (N.getD i "")=some .free)&&decide M.Nodup
theorem hG.of{N:List Str}{TV scope:Scope}{j6:List Nat}{x:Str}{M:List Str}(h:rn N TV scope j6 x M=true):hG N TV scope j6 x M:=by unfold rn at h;simp only[Bool.and_eq_true]at h;obtain⟨⟨⟨⟨⟨⟨⟨a,b⟩,c⟩,d⟩,e⟩,f⟩,g⟩,i⟩:=h;exact⟨of_decide_eq_true a,of_decide_eq_true b,of_decide_eq_true c,of_decide_eq_true d,of_decide_eq_true e,of_decide_eq_true f,of_decide_eq_true g,of_decide_eq_true i⟩
noncomputable def im(j6:List Nat)(σ:St):St:=j6.map fun i=>(σ[i]?).getD none
def zj(j6:List Nat)(wi:TI)(tt:TT)(te:TE):TE:=fun σ H Q=>wi σ H fun J H1=>∃W:Nat→Nat→List V→Hp→Prop,(∃m,W 0 m [] H1)∧
 ∀i m acc H,W i m acc H→(J.stop i H∧∀D,H D=none→Q (.ref D) (upd H D (.lst acc)))∨
  (J.go i H∧acc.length<sizeLine∧∀v H',J.Vf i H v H'→tt (some v::im j6 σ) H' fun b H2=>if b=true then te (some v::im j6 σ) H2 fun y H3=>∃m',m'<m∧W (i+1) m' (acc++ [y]) H3 else∃m',m'<m∧W (i+1) m' acc H2)
theorem Oc.adopt{P:Program}{w:World}{H:Hp}{h:Heap}{a:Addr}{o:HO}(x:Oc P w H h)(hn:H a=none)(new:bN P w (upd H a o) h a o):Oc P w (upd H a o) h:=fun b u e=>by
 by_cases hb:b=a
 ·subst hb;rw[aK]at e;cases e;exact new
 ·rw[aj hb]at e;exact(x b u e).stay (fun c v _ q=>q) (fun c q=>by rw[aj (aE q hn)];exact q) fun c xs q=>by rw[aj (aE q hn)];exact q
theorem iR{env:Env}{x:Str}:∀{names:List (Str×NameKind)},(∀y∈names,y.2≠.cell)→∀{k:NameKind},
  (names.map fun(n,k)=>if(k==NameKind.free&&env.scope.kind==.function&&env.kindOf n==some .cell)then(n,NameKind.cell)else(n,k)).lookup x=some k→k=.cell∨k=.free→(x,NameKind.free)∈names
 |[],_,_,h,_=>by simp at h
 |(n,k0)::r,hn,k,h,hk=>by
  have ih:= @iR env x r (fun y hy=>hn y (List.mem_cons_of_mem _ hy)) k;rw[List.map_cons]at h
  by_cases hc:(k0==NameKind.free&&env.scope.kind==.function&&env.kindOf n==some .cell)=true
  ·have h2:List.lookup x ((n,NameKind.cell)::r.map fun(n,k)=>if(k==NameKind.free&&env.scope.kind==.function&&env.kindOf n==some .cell)then(n,NameKind.cell)else(n,k))=some k:=by have q:=h;simp only[hc,if_true]at q;exact q
   have hf:k0=.free:=by
    have z:(k0==NameKind.free)=true:=by
     cases e:(k0==NameKind.free)with
     |true=>rfl
     |false=>rw[e]at hc;simp at hc
    simpa using z
   by_cases e:x=n
   ·subst e;subst hf;exact List.mem_cons_self
   ·have hb:(x==n)=false:=by simpa using e
    rw[List.lookup_cons,hb]at h2;exact List.mem_cons_of_mem _ (ih h2 hk)
  ·have h2:List.lookup x ((n,k0)::r.map fun(n,k)=>if(k==NameKind.free&&env.scope.kind==.function&&env.kindOf n==some .cell)then(n,NameKind.cell)else(n,k))=some k:=by have q:=h;simp only[hc,if_false]at q;exact q
   by_cases e:x=n
   ·subst e;rw[List.lookup_cons,beq_self_eq_true]at h2;have e2:k0=k:=Option.some.inj h2;subst e2;rcases hk with z|z
    ·exact absurd z (hn (x,k0) List.mem_cons_self)
    ·subst z;exact List.mem_cons_self
   ·have hb:(x==n)=false:=by simpa using e
    rw[List.lookup_cons,hb]at h2;exact List.mem_cons_of_mem _ (ih h2 hk)
theorem kS{env:Env}{x:Str}:∀{names:List (Str×NameKind)},names.lookup x=some .free→
  (names.map fun(n,k)=>if(k==NameKind.free&&env.scope.kind==.function&&env.kindOf n==some .cell)then(n,NameKind.cell)else(n,k)).lookup x=some .cell∨
  (names.map fun(n,k)=>if(k==NameKind.free&&env.scope.kind==.function&&env.kindOf n==some .cell)then(n,NameKind.cell)else(n,k)).lookup x=some .free
 |[],h=>by simp at h
 |(n,k)::r,h=>by
  have ih:= @kS env x r;show List.lookup x ((if(k==NameKind.free&&env.scope.kind==.function&&env.kindOf n==some .cell)=true then(n,NameKind.cell)else(n,k))::_)=_∨List.lookup x ((if(k==NameKind.free&&env.scope.kind==.function&&env.kindOf n==some .cell)=true then(n,NameKind.cell)else(n,k))::_)=_
  by_cases hc:(k==NameKind.free&&env.scope.kind==.function&&env.kindOf n==some .cell)=true
  ·rw[if_pos hc]
   cases hx:x==n with
   |true=>left;simp[List.lookup_cons,hx]
   |false=>simp only[List.lookup_cons,hx]at h ⊢;exact ih h
  ·rw[if_neg hc]
   cases hx:x==n with
   |true=>
    simp only[List.lookup_cons,hx]at h
    right;simp[List.lookup_cons,hx,h]
   |false=>simp only[List.lookup_cons,hx]at h ⊢;exact ih h
theorem lN{prog:Program}{w:World}{A:Around}{R:Result→Shared→Prop}{s:Shared}{elt target iter:Expr}{ifs:List Expr}{scope:Scope}{pos:Pos}{it acc:Value}{env:Env}(I:Nat→Shared→Prop)
  (turn:∀n s,I n s→wpAny (model prog w) A (pyNext it) (fun r s₁=>match r with
   |none=>R (.ok .next) s₁
   |some v=>wpAny (model prog w) A (letOwnedTupleGo target it v) (fun _ s₂=>wpAny (model prog w) A (assign target env v) (fun _ s₃=>
     wpAny (model prog w) A (forIn ifs true fun c r=>if r=true then do let ok ← isTrue c env (eval c env);pure (ForInStep.yield ok)else pure (ForInStep.yield r)) (fun ok s₄=>
      if ok=true then wpAny (model prog w) A (eval elt env) (fun x s₅=>wpAny (model prog w) A (call (.builtin "list.append") [acc,x]) (fun _ s₆=>∃m,m<n∧I m s₆) (fun _ _=>False) s₅) (fun _ _=>False) s₄
      else∃m,m<n∧I m s₄) (fun _ _=>False) s₃) (fun _ _=>False) s₂) (fun _ _=>False) s₁) (fun _ _=>False) s)
  (n:Nat) (h:I n s):
  codeAny (model prog w) A (.compLoop (.ListComp elt [⟨target,iter,ifs,0⟩] scope pos) 0 it acc env) R s:=by
 refine codeAny_loop rfl I (fun n s hI=>?_) n h;show wpAny _ A ((compTurn (.ListComp elt [⟨target,iter,ifs,0⟩] scope pos) 0 it acc env).onRaise (fun x=>do noteFrame x env;theTreesLotGoes x)) _ _ s;refine wpAny_noted ?_;rw[compTurn_list];refine wpAny_bind (wpAny_standAt (wpAny_bind (wpAny_mono (turn n s hI) (fun r s₁ h₁=>?_) fun _ _ h'=>h'.elim)))
 cases r with
 |none=>exact wpAny_pure h₁
 |some v=>
  refine wpAny_bind (wpAny_mono h₁ (fun _ s₂ h₂=>wpAny_bind (wpAny_mono h₂ (fun _ s₃ h₃=>wpAny_bind (wpAny_mono h₃ (fun ok s₄ h₄=>?_) fun _ _ h'=>h'.elim)) fun _ _ h'=>h'.elim)) fun _ _ h'=>h'.elim)
  cases ok with
  |false=>exact wpAny_pure ⟨rfl,h₄⟩
  |true=>exact wpAny_bind (wpAny_bind (wpAny_mono h₄ (fun x s₅ h₅=>wpAny_bind (wpAny_mono h₅ (fun _ s₆ h₆=>wpAny_pure (wpAny_pure ⟨rfl,h₆⟩)) fun _ _ h'=>h'.elim)) fun _ _ h'=>h'.elim))
section
variable{X:Cx}
theorem Inv.cap{pins:List (Addr×Obj)}{σ:St}{H:Hp}{s:Shared}{i:Nat}{y:Str}{v:V}(I:Inv X pins σ H s)(hy:X.N[i]? =some y)(hv:σ[i]? =some (some v))(hk:X.env.kindOf y=some .cell∨X.env.kindOf y=some .free):
  ∃u c,aX v u∧X.env.cells.lookup y=some c∧s.heap.IsCell c (some u):=by
 obtain⟨m,hn,hl⟩:=I.loc;obtain⟨u,r,l⟩:=hl i y v hy hv (by rcases hk with h|h;exact .inr (.inl h);exact .inr (.inr h));rcases l with⟨h1,_⟩|⟨_,c,hc,z⟩
 ·rcases hk with h|h<;>(rw[h1]at h;cases h)
 ·exact⟨u,c,r,hc,z⟩
theorem oH{M:List Str}{scope:Scope}{j6:List Nat}{x:Str}{pins:List (Addr×Obj)}{σ:St}{H:Hp}{s s4:Shared}{fp:List Addr}{C:Addr}{m:Str→Option Value}
  (S:hG X.N X.env.scope scope j6 x M) (NP:X.calm=true) (I:Inv X pins σ H s) (hf:∀b∈fp,jU X pins H b) (hfo:∀b∈fp,∃o,s.heap.get? b=some o)
  (hC:s.heap.objs.size≤C) (Uw:s4.os=s.os) (hg:AllBare s4.gens) (keep:∀b o,s.heap.get? b=some o→s4.heap.get? b=some o) (hn:s4.heap.Ns C m):
  Inv (dF X M scope (eJ X.env.cells scope.names []) C fp s H) [] (none::im j6 σ) H s4:=by
 have R_:∀y c,(eJ X.env.cells scope.names []).lookup y=some c→X.env.cells.lookup y=some c:=fun y c h=>(fK h).1
 have fresh:∀b o,s.heap.get? b=some o→b≠C:=fun b o e z=>by subst z;exact absurd (Nat.lt_of_lt_of_le (Heap.lt_size e) hC) (Nat.lt_irrefl _)
 have ok:(dF X M scope (eJ X.env.cells scope.names []) C fp s H).Ok:=by
  refine⟨I.ok.mod,?_,I.ok.glob,I.ok.blt,hC,fun y z c h1 h2=>I.ok.inj y z c (R_ _ _ h1) (R_ _ _ h2),fun y hy=>?_,fun y c h _=>Bool.noConfusion h,fun _=>I.ok.hd NP,I.ok.frames,.inl rfl,fun b hb=>⟨?_,fun y c h z=>?_⟩,
   I.bs,Nat.le_trans I.ok.Vb I.sz,fun b o e hb=>?_,fun b hb hs=>?_,I.stack,I.S7⟩
  ·exact S.kind
  ·have hm:(y,NameKind.free)∈scope.names:=by
    rcases hy with h|h
    ·exact iR S.Ro h (.inl rfl)
    ·exact iR S.Ro h (.inr rfl)
   obtain⟨c,hc⟩:=I.ok.has y (S.free _ hm rfl);exact⟨c,tQ hc hm⟩
  ·obtain⟨o,e⟩:=hfo b hb;exact fresh b o e
  ·exact(hf b hb).2.2.2.2.1 y c (R_ y c h) z
  ·rcases(hf b hb).2.2.2.1 with z|z
   ·exact I.ok.TX b o e z
   ·exact absurd (Nat.lt_of_lt_of_le (Heap.lt_size e) (Nat.le_trans I.ok.Vb z)) (Nat.lt_irrefl _)
  ·rcases List.mem_cons.mp (I.QC b hs)with z|z
   ·exact(hf b hb).2.1 z
   ·exact(hf b hb).2.2.1 z
 refine⟨ok,Uw,hg,Un.kept keep,⟨m,hn,fun i y v h1 h2 h3=>?_⟩,fun y c h=>?_,I.hok.fresh hC,fun y c h=>I.Ol y c (R_ y c h),fun p hp=>absurd (show p∈([]:List (Addr×Obj))from hp) (by simp),I.hok.kept keep,?_⟩
 ·have S6:M[i]? =some y:=h1
  cases i with
  |zero=>simp at h2
  |succ j=>
   rw[S.inN]at S6;simp only[List.getElem?_cons_succ,im,List.getElem?_map]at S6 h2
   cases e:j6[j]? with
   |none=>rw[e]at S6;simp at S6
   |some k=>
    rw[e]at S6 h2;simp only[Option.map_some,Option.some.injEq]at S6 h2;obtain⟨c1,c2⟩:=S.cap k (List.mem_of_getElem? e);rw[S6]at c2
    have hN:X.N[k]? =some y:=by rw[← S6,List.getD_eq_getElem?_getD,List.getElem?_eq_getElem c1];rfl
    have hσ:σ[k]? =some (some v):=by
     cases q:σ[k]? with
     |none=>rw[q]at h2;cases h2
     |some z=>rw[q]at h2;simpa using h2
    obtain⟨u,c,r,hc,z⟩:=I.cap hN hσ (S.free (y,.free) (PySem.mem_of_lookup c2) rfl);obtain⟨oc,ho,hd⟩:=z;exact⟨u,r,.inr ⟨kS c2,c,tQ hc (PySem.mem_of_lookup c2),oc,keep _ _ ho,hd⟩⟩
 ·obtain⟨v,oc,ho,hd⟩:=I.cell y c (R_ y c h);exact⟨v,oc,keep _ _ ho,hd⟩
 ·show _=M.length;rw[S.inN];simp[im]
theorem qj{M:List Str}{scope:Scope}{cl:List (Str×Addr)}{pins K3:List (Addr×Obj)}{σ σ':St}{H H':Hp}{s s':Shared}{fp:List Addr}{C D:Addr}{Vz:Heap}{acc:List V}{its:List Value}
  (I:Inv X pins σ H s) (hf:∀b∈fp,jU X pins H b) (I':Inv (dF X M scope cl C fp s H) K3 σ' H' s') (hC:s.heap.objs.size≤C) (hD:s.heap.objs.size≤D) (Tt:D≠C) (hDn:H' D=none)
  (hl:s'.heap.PlainList D its.toArray) (rv:aR acc its) (hz:acc.length≤sizeLine) (sb:Heap.SameBut C s'.heap Vz):
  Inv X pins σ (upd H' D (.lst acc)) { s' with heap:=Vz }:=by
 have below:∀b o,s.heap.get? b=some o→b≠C∧b≠D:=fun b o e=>⟨fun z=>absurd (Nat.lt_of_lt_of_le (Heap.lt_size e) (by rw[z];exact hC)) (Nat.lt_irrefl _),fun z=>absurd (Nat.lt_of_lt_of_le (Heap.lt_size e) (by rw[z];exact hD)) (Nat.lt_irrefl _)⟩
 have Y6:H D=none:=I.hok.fresh hD;have B:Un (frs X.stack) fp H H' s.heap s'.heap:=I'.base;have hHC:H' C=none:=I'.free;obtain⟨n,el⟩:=hl
 have ok1:Oc X.prog X.w H' Vz:=fun b u e=>by
  refine(show bN X.prog X.w H' s'.heap b u from I'.hok b u e).stay (fun c v hc q=>(sb.2 c ?_).trans q) (fun _ q=>q) fun _ _ q=>q;rcases hc with z|z
  ·rw[z];intro z2;rw[z2,hHC]at e;cases e
  ·intro z2;rw[z2,hHC]at z;cases z
 have U6:Oc X.prog X.w (upd H' D (.lst acc)) Vz:=ok1.adopt hDn ⟨hz,its,n,rv,(sb.2 D Tt).trans el⟩
 have U:Un (frs X.stack) fp H (upd H' D (.lst acc)) s.heap Vz:=by
  refine⟨fun b o q n hb hx=>(sb.2 b (below b o q).1).trans (B.keep b o q n hb hx),fun b o q n hb hx=>?_,fun b o q n hx=>?_,fun b o q hx=>?_,fun b xs q=>?_,fun b o u q=>?_,fun b ps q=>?_⟩
  ·obtain⟨sl,e⟩:=B.slot b o q n hb hx;exact⟨sl,(sb.2 b (below b o q).1).trans e⟩
  ·rw[aj (below b o q).2];exact B.free b o q n hx
  ·obtain⟨o',e⟩:=B.there b o q hx;exact⟨o',(sb.2 b (below b o q).1).trans e⟩
  ·rw[aj (aE q Y6)];exact B.tups b xs q
  ·rw[aj (aE q Y6)];exact B.Ms b o u q
  ·rw[aj (aE q Y6)];exact B.Rb b ps q
 have os:s'.os=s.os:=I'.os;exact I.call' (s':={ s' with heap:=Vz }) (ch:=fp) os U U6 I'.bare fun b hb=>⟨(hf b hb).2.2.2.1,(hf b hb).2.1,(hf b hb).2.2.2.2.1,(hf b hb).2.2.2.2.2⟩
theorem wD{elt iter:Expr}{x:Str}{px:Pos}{ifs:List Expr}{scope:Scope}{pos:Pos}{wi:TI}{tt:TT}{te:TE}{M:List Str}(j6:List Nat)(NP:X.calm=true)(S:hG X.N X.env.scope scope j6 x M)
  (hi:PI X (.Name x px) iter wi) (ht:∀cl C ex s H,Xf (dF X M scope cl C ex s H) ifs tt) (he:∀cl C ex s H,PE (dF X M scope cl C ex s H) elt te)
  (hs:∀y,foldedSetIterable iter X.env y=pure y:=by intro _;rfl):PE X (.ListComp elt [⟨.Name x px,iter,ifs,0⟩] scope pos) (zj j6 wi tt te):=by
 intro pins s σ H Q I h;rw[eval_ListComp];refine wpAny_comprehension_free (use:=none) rfl hs (kg fun n hn=>I.ok.has n (S.free _ hn rfl)) S.kind S.names ?_;refine B_ (hi pins s σ H _ I h) fun v s1 h1=>B_ h1 fun Xz s2 h2=>?_;obtain⟨it,fp,tn,J,H2,e,I2,T,TF,f2,W,⟨m0,w0⟩,turn⟩:=h2;subst e;refine wpAny_newObj_type (wpAny_newFunctionEnv S.Ro (by intro y hy;simp at hy) (fun h₁ SQ Rp=>?_) S.kind);dsimp only at SQ Rp ⊢;generalize hH2:s2.heap.push { cls:=.type "list",dict:=none,data:=.seq ([]:List Value).toArray }=P2 at SQ Rp ⊢;have Vy:P2.objs.size=s2.heap.objs.size+1:=by rw[← hH2,Heap.size_push]
 have Tt:s2.heap.objs.size≠P2.objs.size:=by rw[Vy];exact Nat.ne_of_lt (Nat.lt_succ_self _)
 have Q5:s2.heap.objs.size≤P2.objs.size:=by rw[Vy];exact Nat.le_succ _
 have below:∀b,b<s2.heap.objs.size→b≠P2.objs.size:=fun b hb=>by rw[Vy];exact Nat.ne_of_lt (Nat.lt_succ_of_lt hb)
 have old:∀b o,s2.heap.get? b=some o→h₁.get? b=some o:=fun b o e=>Rp.extBut b o (below b (Heap.lt_size e)) (Heap.get?_push_of_some _ (hH2▸Heap.get?_push_of_some _ e));have S5:h₁.PlainList s2.heap.objs.size #[]:=⟨_,Rp.extBut _ _ Tt (Heap.get?_push_of_some _ (hH2▸Heap.get?_push_size _ rfl))⟩
 have VF:∀b∈fp,∃o,s2.heap.get? b=some o∧∀v,o.data≠.cell v:=T.obj 0 _ TF
 have W9:s2.heap.objs.size∉fp:=fun hb=>by obtain⟨o,e,_⟩:=VF _ hb;exact absurd (Heap.lt_size e) (Nat.lt_irrefl _)
 have hDs:∀{c:Addr}{o:Obj},s2.heap.get? c=some o→c≠s2.heap.objs.size:=fun e=>Nat.ne_of_lt (Heap.lt_size e)
 let Y:Cx:=dF X M scope (eJ X.env.cells scope.names []) P2.objs.size fp s2 H2
 have I4:Inv Y [] (none::im j6 σ) H2 { s2 with heap:=h₁,toks:=s2.toks+([]:List (Str×Value)).length }:=
  oH S NP I2 f2 (fun b hb=>let⟨o,e,_⟩:=VF b hb;⟨o,e⟩) Q5 rfl I2.bare old SQ
 have Y_:∀{K3:List (Addr×Obj)}{H':Hp},(∀b∈fp,H' b=none)→(∀p∈K3,p.1∉fp)→∀b∈fp,jU Y K3 H' b:=fun{K3 H'} hn hp b hb=>by
  obtain⟨o,e,_⟩:=VF b hb;refine⟨hn b hb,below b (Heap.lt_size e),fun hs=>?_,.inl hb,fun y c h=>(f2 b hb).2.2.2.2.1 y c (fK h).1,fun p Vr z=>hp p (show p∈K3 from by have q:p∈ []++K3:=Vr;simpa using q) (by rw[z];exact hb)⟩;rcases List.mem_cons.mp (I2.QC b hs)with z|z
  ·exact(f2 b hb).2.1 z
  ·exact(f2 b hb).2.2.1 z
 have Zv:s2.heap.objs.size∉Y.fs:=fun hs=>by obtain⟨_,o,ho,_⟩:=I2.stack.mem hs;exact absurd (Heap.lt_size ho) (Nat.lt_irrefl _)
 have T_:∀y c,Y.env.cells.lookup y=some c→c≠s2.heap.objs.size:=fun y c h z=>by obtain⟨v,q⟩:=I2.cell y c (fK h).1;rw[z]at q;exact absurd q.lt (Nat.lt_irrefl _)
 have loop:∀s₃:Shared,s₃={ s2 with heap:=h₁,toks:=s2.toks+([]:List (Str×Value)).length }→
   codeAny (model X.prog X.w) X.A (.compLoop (.ListComp elt [⟨.Name x px,iter,ifs,0⟩] scope pos) 0 (.ref it) (.ref s2.heap.objs.size) (compEnvC scope (eJ X.env.cells scope.names []) P2.objs.size X.env))
    (compPost (model X.prog X.w) X.A X.xe none (EP X pins σ Q) (.ref s2.heap.objs.size) P2.objs.size) s₃:=by
  rintro s₃ rfl
  refine lN (fun n s'=>∃i acc H' its,Inv Y [] (none::im j6 σ) H' s'∧tn i s'.heap∧(∀b∈fp,H' b=none)∧H' s2.heap.objs.size=none∧s'.heap.PlainList s2.heap.objs.size its∧aR acc its.toList∧acc.length≤sizeLine∧W i n acc H') ?_ m0
   ⟨0,[],H2, #[],I4,T.keep 0 _ _ TF (fun b hb o e=>old b o e),fun b hb=>(f2 b hb).1,I2.hok.fresh (Nat.le_refl _),S5,.nil,Nat.zero_le _,w0⟩
  rintro n s5 ⟨i,acc,H5,its,I5,Ul,VB,Vx,YL,Uo,WM,w5⟩
  have W4:Y.calm=true:=rfl;obtain⟨nn,Za⟩:=YL
  have VR:Inv Y [(s2.heap.objs.size,{ cls:=.type "list",data:=.seq its nn })] (none::im j6 σ) H5 s5:=I5.Mh fun p hp=>by
   have e:p=(s2.heap.objs.size,{ cls:=.type "list",data:=.seq its nn }):=by simpa using hp
   subst e;exact⟨Za,Vx,Tt,Zv,fun v z=>by cases z⟩
  have VD:∀{H':Hp},(∀b∈fp,H' b=none)→∀b∈fp,jU Y [(s2.heap.objs.size,{ cls:=.type "list",data:=.seq its nn })] H' b:=fun hn=>Y_ hn fun p hp=>by
   have e:p=(s2.heap.objs.size,{ cls:=.type "list",data:=.seq its nn }):=by simpa using hp
   subst e;exact W9
  have Vk:aR acc its.toList:=Uo;rcases turn i n acc H5 w5 with⟨stop,qn⟩|⟨go,QZ,step⟩
  ·refine B_ (T.done Y rfl rfl rfl W4 i _ s5 _ H5 (fun _ _=>False) VR (VD VB) Ul stop) ?_;rintro r s6 ⟨hr,I6⟩;subst hr;obtain⟨m6,YH,_⟩:=id I6.loc;obtain⟨p1,p2,_⟩:=I6.pin (s2.heap.objs.size,{ cls:=.type "list",data:=.seq its nn }) (by simp);refine⟨m6,YH,fun h' sb=>⟨.ref s2.heap.objs.size,upd H5 s2.heap.objs.size (.lst acc),?_,rfl,qn _ Vx⟩⟩;exact qj (its:=its.toList) I2 f2 I6 Q5 (Nat.le_refl _) Tt Vx (show s6.heap.PlainList s2.heap.objs.size its.toList.toArray from⟨nn,by rw[Array.toArray_toList];exact p1⟩) Vk WM sb
  ·refine B_ (T.item Y rfl rfl rfl W4 i _ s5 _ H5 (fun _ _=>False) VR (VD VB) Ul go) ?_;rintro r s6 ⟨u,hr,h6⟩;subst hr;refine B_ h6 ?_;rintro _ s7 ⟨v7,H7,I7,r7,y7,Vj,Y9⟩;have Zt:=I7.pinned (VD Y9) (T.obj _ _ Vj);have hg:PG Y (.Name x px) (wX 0):=mR (X:=Y) (i:=0) S.nd (by show M[0]? =some x;rw[S.inN];rfl) (Or.inl (lookup_relabel_local S.var)) (.inr (lookup_relabel_local S.var));refine B_ (hg _ s7 _ H7 v7 u (fun σ8 H8=>σ8=some v7::im j6 σ∧H8=H7) Zt r7 ⟨rfl,rfl⟩) ?_;rintro _ s8 ⟨σ8,H8,I8,e8,Zb⟩;subst e8 Zb;refine B_ (ht _ _ _ _ _ _ s8 _ _ _ I8 (step v7 _ y7)) ?_;rintro b s9 ⟨H9,I9,q9⟩
   have tail:∀{σ':St}{H':Hp}{s':Shared},Inv Y ([(s2.heap.objs.size,{ cls:=.type "list",data:=.seq its nn })]++ma fp s7.heap) σ' H' s'→
     tn (i+1) s'.heap∧(∀b∈fp,H' b=none)∧s'.heap.get? s2.heap.objs.size=some { cls:=.type "list",data:=.seq its nn }∧H' s2.heap.objs.size=none:=fun{σ' H' s'} J=>by
    refine⟨T.keep _ _ _ Vj fun b hb o e=>(J.pin (b,o) (List.mem_append_right _ (List.mem_append_right _ (fH hb e)))).1,fun b hb=>?_,?_⟩
    ·obtain⟨o,e,d⟩:=T.obj _ _ Vj b hb;exact(J.pin (b,o) (List.mem_append_right _ (List.mem_append_right _ (fH hb e)))).2.1
    ·have p:=J.pin (s2.heap.objs.size,{ cls:=.type "list",data:=.seq its nn }) (by simp);exact⟨p.1,p.2.1⟩
   cases b with
   |false=>
    obtain⟨m',hm,w9⟩:=(show∃m',m'<n∧W (i+1) m' acc H9 from by simpa using q9)
    obtain⟨t1,t2,t3,t4⟩:=tail I9;refine⟨m',hm,i+1,acc,H9,its,?_,t1,t2,t4,⟨nn,t3⟩,Uo,WM,w9⟩
    exact(I9.Mh (K3:=[]) fun p hp=>absurd hp (by simp)).weak (by simp) fun j w z=>by
     cases j with
     |zero=>simp at z
     |succ j=>simpa using z
   |true=>
    have Yn:te (some v7::im j6 σ) H9 fun y H3=>∃m',m'<n∧W (i+1) m' (acc++ [y]) H3:=by simpa using q9
    refine B_ (he _ _ _ _ _ _ s9 _ _ _ I9 Yn) ?_;rintro Yk Wj ⟨y,Xj,Xi,r10,m',hm,w10⟩;obtain⟨t1,t2,t3,t4⟩:=tail Xi;have lz:its.size=acc.length:=by rw[Uo.length];simp
    refine wpAny_list_append_plain ⟨nn,t3⟩ (fun h' WX Wi=>?_) (by omega)
    have Zu:Inv Y [] (some v7::im j6 σ) Xj { Wj with heap:=h',toks:=Wj.toks }:=
     (Xi.Mh (K3:=[]) fun p hp=>absurd hp (by simp)).turned (it:=s2.heap.objs.size) (fun b o hb e=>(Wi.2 b hb).trans e) t4 Tt (.inr (Nat.le_refl _)) T_ (fun p hp=>absurd (show p∈([]:List (Addr×Obj))from hp) (by simp))
    refine⟨m',hm,i+1,acc++ [y],Xj,its.push Yk,?_,T.keep _ _ _ t1 (fun b hb o e=>(Wi.2 b (fun z=>W9 (z▸hb))).trans e),t2,t4,WX,?_,?_,w10⟩
    ·exact Zu.weak (by simp) fun j w z=>by
      cases j with
      |zero=>simp at z
      |succ j=>simpa using z
    ·rw[Array.toList_push];exact Uo.append (.cons r10 .nil)
    ·rw[List.length_append,List.length_singleton];omega
 exact codeAny_compStart_list (loop _ rfl) (T.self X.A 0 _ _ _ (T.keep 0 _ _ TF (fun b hb o e=>old b o e)) (loop _ rfl))
end
section
variable{X:Cx}
def IB:V→Option Int→Option Int→Hp→VK→Prop:=fun x lo hi H Q=>∃z,x=.str z∧z.length≤sizeLine∧Q (.str (Txt.slice z lo hi)) H
theorem Fl:Tz X IB:=by
 intro pins s σ H x v vl vu lo hi sl Q I rx hs pl pu h;obtain⟨z,rfl,hz,q⟩:=h;obtain⟨t,rfl⟩:=rx;refine⟨"str",_,PySem.F.slot_str_getitem.lookup,typeIs_str _ _ _,?_⟩;have fin:∀t' k,EP X pins σ Q (.str (Txt.slice z lo hi) t') { s with toks:=k }:=fun t' k=>⟨.str _,H,I.tok k,⟨t',rfl⟩,q⟩
 obtain⟨o,e,c,d⟩:=hs
 cases pl with
 |none=>cases pu with
  |none=>exact wpAny_getItem_str_slice (l:=none) (u:=none) (st:=none) ⟨o,e,c,d⟩ rfl (post_val_or_str ⟨Nat.le_trans (Txt.slice_le z _ _) hz,fin⟩)
  |int j u=>exact wpAny_getItem_str_slice (l:=none) (u:=some (j,u)) (st:=none) ⟨o,e,c,d⟩ rfl (post_val_or_str ⟨Nat.le_trans (Txt.slice_le z _ _) hz,fin⟩)
 |int i u1=>cases pu with
  |none=>exact wpAny_getItem_str_slice (l:=some (i,u1)) (u:=none) (st:=none) ⟨o,e,c,d⟩ rfl (post_val_or_str ⟨Nat.le_trans (Txt.slice_le z _ _) hz,fin⟩)
  |int j u=>exact wpAny_getItem_str_slice (l:=some (i,u1)) (u:=some (j,u)) (st:=none) ⟨o,e,c,d⟩ rfl (post_val_or_str ⟨Nat.le_trans (Txt.slice_le z _ _) hz,fin⟩)
theorem ny:∀{ys:List Str}{us:List Value},aR (ys.map V.str) us→StrsAre us ys
 |[],_,.nil=>.nil
 |y::r,_,.cons h t=>by obtain⟨tk,e⟩:=h;subst e;exact .cons y tk (ny t)
def EC(K:W.Frag):V→List V→Hp→VK→Prop:=fun x xs H Q=>∃sep p ys,x=.str sep∧xs= [.ref p]∧Mq K H p (ys.map V.str)∧(ys.map (·.length)).sum+ys.length * sep.length≤16777216∧Q (.str (Txt.join sep ys)) H
theorem Dv:VP X "str.join" (EC X.K):=by
 intro pins s σ H x xs v us Q I rx rv h;obtain⟨sep,p,ys,rfl,rfl,hp,hz,q⟩:=h;obtain⟨t,rfl⟩:=rx;obtain⟨u,rfl,ru⟩:=rv.one
 cases ru
 obtain⟨its,r,pl,_⟩:=I.list hp;exact join_list pl.isList (by simpa using ny r) hz fun t' k=>⟨.str _,H,I.tok k,⟨t',rfl⟩,q⟩
noncomputable def EA:R2:=fun x y H Q=>∃z k,x=.str z∧y=.int k∧MulOk z k∧Q (.str (Txt.mul z k)) H
theorem uN:Ng X (binaryOp .Mult) EA:=by intro pins s σ H x y v u Q I rx ry h;obtain⟨z,k,rfl,rfl,hk,q⟩:=h;obtain⟨t,rfl⟩:=rx;obtain⟨t2,rfl⟩:=ry;exact SB.mul hk fun t' c=>⟨.str _,H,I.tok c,⟨t',rfl⟩,q⟩
theorem Dw:VP X "str.find" (fun x xs H Q=>∃z y,x=.str z∧xs= [.str y]∧Q (.int (Txt.find z y)) H):=by intro pins s σ H x xs v us Q I rx rv h;obtain⟨z,y,rfl,rfl,q⟩:=h;obtain⟨t,rfl⟩:=rx;obtain⟨u,rfl,ru⟩:=rv.one;obtain⟨t2,rfl⟩:=ru;exact SC.find ⟨.int _,H,I.tok _,⟨_,rfl⟩,q⟩
end
theorem eQ{H:Hp}{p:Addr}(h:H p=none)(o:HO):cy H (upd H p o):=fun b u q=>by rw[aj (aE q h)];exact q
theorem cy.O9{K:W.Frag}{H H':Hp}{a:Addr}{xs:List V}(e:cy H H')(h:Nf K H a xs):Nf K H' a xs:=by
 rcases h with(h|⟨o,h⟩)|h
 ·exact .inl (.inl (e _ _ h))
 ·exact .inl (.inr ⟨o,e _ _ h⟩)
 ·exact .inr h
theorem cU{α:Type}{xs:List α}{j:Int}{v:α}(h0:0≤j)(h:xs[j.toNat]? =some v):m_ xs j=some v:=by obtain⟨k,rfl⟩:=Int.eq_ofNat_of_zero_le h0;exact Eh (by simpa using h)
open PySem.W
section
variable{X:Cx}
theorem nP{elt iter:Expr}{x:Str}{px:Pos}{ifs:List Expr}{scope:Scope}{pos:Pos}{wi:TI}{y:Str}{py Sw:Pos}{iy:Nat}{tt:TT}{te:TE}{M:List Str}(j6:List Nat)(NP:X.calm=true)(S:hG X.N X.env.scope scope j6 x M)
  (hi:PI X (.Name x px) iter wi) (ht:∀cl C ex s H,Xf (dF X M scope cl C ex s H) ifs tt) (he:∀cl C ex s H,PE (dF X M scope cl C ex s H) elt te)
  (W7:X.N.Nodup) (hy:X.N[iy]? =some y) (V9:X.env.scope.names.lookup y=some .local) (WQ:swapsWith (.ListComp elt [⟨.Name x px,iter,ifs,0⟩] scope pos) (some (.Name y py)) Sw.line X.env=pure true)
  (hs:∀y,foldedSetIterable iter X.env y=pure y:=by intro _;rfl):PS X (.Assign [.Name y py] (.ListComp elt [⟨.Name x px,iter,ifs,0⟩] scope pos) Sw) (fun D σ H=>zj j6 wi tt te σ H fun v H1=>D.nx (σ.set iy (some v)) H1):=by
 intro pins s σ H D I h;rw[exec_Assign_Name_used _ _ _ _ WQ];refine wpAny_bind<|wpAny_standAt<|wpAny_bind ?_
 show wpAny _ X.A (comprehension (.ListComp elt [⟨.Name x px,iter,ifs,0⟩] scope pos) scope X.env _ (newList []) false (eval iter X.env) (some (assign (.Name y py) X.env)) >>= fun _=>pure ()) _ _ s;refine wpAny_bind<|wpAny_mono (wpAny_comprehension_free (use:=some (assign (.Name y py) X.env)) (Q:=fun _ s'=>SP X pins D .next s') rfl hs (kg fun n hn=>I.ok.has n (S.free _ hn rfl)) S.kind S.names ?_) (fun _ _ z=>wpAny_pure (wpAny_pure z)) fun _ _ z=>z
 refine B_ (hi pins s σ H _ I h) fun v s1 h1=>B_ h1 fun Xz s2 h2=>?_;obtain⟨it,fp,tn,J,H2,e,I2,T,TF,f2,W,⟨m0,w0⟩,turn⟩:=h2;subst e;refine wpAny_newObj_type (wpAny_newFunctionEnv S.Ro (by intro y hy;simp at hy) (fun h₁ SQ Rp=>?_) S.kind);dsimp only at SQ Rp ⊢;generalize hH2:s2.heap.push { cls:=.type "list",dict:=none,data:=.seq ([]:List Value).toArray }=P2 at SQ Rp ⊢;have Vy:P2.objs.size=s2.heap.objs.size+1:=by rw[← hH2,Heap.size_push]
 have Tt:s2.heap.objs.size≠P2.objs.size:=by rw[Vy];exact Nat.ne_of_lt (Nat.lt_succ_self _)
 have Q5:s2.heap.objs.size≤P2.objs.size:=by rw[Vy];exact Nat.le_succ _
 have below:∀b,b<s2.heap.objs.size→b≠P2.objs.size:=fun b hb=>by rw[Vy];exact Nat.ne_of_lt (Nat.lt_succ_of_lt hb)
 have old:∀b o,s2.heap.get? b=some o→h₁.get? b=some o:=fun b o e=>Rp.extBut b o (below b (Heap.lt_size e)) (Heap.get?_push_of_some _ (hH2▸Heap.get?_push_of_some _ e));have S5:h₁.PlainList s2.heap.objs.size #[]:=⟨_,Rp.extBut _ _ Tt (Heap.get?_push_of_some _ (hH2▸Heap.get?_push_size _ rfl))⟩
 have VF:∀b∈fp,∃o,s2.heap.get? b=some o∧∀v,o.data≠.cell v:=T.obj 0 _ TF
 have W9:s2.heap.objs.size∉fp:=fun hb=>by obtain⟨o,e,_⟩:=VF _ hb;exact absurd (Heap.lt_size e) (Nat.lt_irrefl _)
 have hDs:∀{c:Addr}{o:Obj},s2.heap.get? c=some o→c≠s2.heap.objs.size:=fun e=>Nat.ne_of_lt (Heap.lt_size e)
 let Y:Cx:=dF X M scope (eJ X.env.cells scope.names []) P2.objs.size fp s2 H2
 have I4:Inv Y [] (none::im j6 σ) H2 { s2 with heap:=h₁,toks:=s2.toks+([]:List (Str×Value)).length }:=
  oH S NP I2 f2 (fun b hb=>let⟨o,e,_⟩:=VF b hb;⟨o,e⟩) Q5 rfl I2.bare old SQ
 have Y_:∀{K3:List (Addr×Obj)}{H':Hp},(∀b∈fp,H' b=none)→(∀p∈K3,p.1∉fp)→∀b∈fp,jU Y K3 H' b:=fun{K3 H'} hn hp b hb=>by
  obtain⟨o,e,_⟩:=VF b hb;refine⟨hn b hb,below b (Heap.lt_size e),fun hs=>?_,.inl hb,fun y c h=>(f2 b hb).2.2.2.2.1 y c (fK h).1,fun p Vr z=>hp p (show p∈K3 from by have q:p∈ []++K3:=Vr;simpa using q) (by rw[z];exact hb)⟩;rcases List.mem_cons.mp (I2.QC b hs)with z|z
  ·exact(f2 b hb).2.1 z
  ·exact(f2 b hb).2.2.1 z
 have Zv:s2.heap.objs.size∉Y.fs:=fun hs=>by obtain⟨_,o,ho,_⟩:=I2.stack.mem hs;exact absurd (Heap.lt_size ho) (Nat.lt_irrefl _)
 have T_:∀y c,Y.env.cells.lookup y=some c→c≠s2.heap.objs.size:=fun y c h z=>by obtain⟨v,q⟩:=I2.cell y c (fK h).1;rw[z]at q;exact absurd q.lt (Nat.lt_irrefl _)
 have loop:∀s₃:Shared,s₃={ s2 with heap:=h₁,toks:=s2.toks+([]:List (Str×Value)).length }→
   codeAny (model X.prog X.w) X.A (.compLoop (.ListComp elt [⟨.Name x px,iter,ifs,0⟩] scope pos) 0 (.ref it) (.ref s2.heap.objs.size) (compEnvC scope (eJ X.env.cells scope.names []) P2.objs.size X.env))
    (compPost (model X.prog X.w) X.A X.xe (some (assign (.Name y py) X.env)) (fun _ s'=>SP X pins D .next s') (.ref s2.heap.objs.size) P2.objs.size) s₃:=by
  rintro s₃ rfl
  refine lN (fun n s'=>∃i acc H' its,Inv Y [] (none::im j6 σ) H' s'∧tn i s'.heap∧(∀b∈fp,H' b=none)∧H' s2.heap.objs.size=none∧s'.heap.PlainList s2.heap.objs.size its∧aR acc its.toList∧acc.length≤sizeLine∧W i n acc H') ?_ m0
   ⟨0,[],H2, #[],I4,T.keep 0 _ _ TF (fun b hb o e=>old b o e),fun b hb=>(f2 b hb).1,I2.hok.fresh (Nat.le_refl _),S5,.nil,Nat.zero_le _,w0⟩
  rintro n s5 ⟨i,acc,H5,its,I5,Ul,VB,Vx,YL,Uo,WM,w5⟩
  have W4:Y.calm=true:=rfl;obtain⟨nn,Za⟩:=YL
  have VR:Inv Y [(s2.heap.objs.size,{ cls:=.type "list",data:=.seq its nn })] (none::im j6 σ) H5 s5:=I5.Mh fun p hp=>by
   have e:p=(s2.heap.objs.size,{ cls:=.type "list",data:=.seq its nn }):=by simpa using hp
   subst e;exact⟨Za,Vx,Tt,Zv,fun v z=>by cases z⟩
  have VD:∀{H':Hp},(∀b∈fp,H' b=none)→∀b∈fp,jU Y [(s2.heap.objs.size,{ cls:=.type "list",data:=.seq its nn })] H' b:=fun hn=>Y_ hn fun p hp=>by
   have e:p=(s2.heap.objs.size,{ cls:=.type "list",data:=.seq its nn }):=by simpa using hp
   subst e;exact W9
  have Vk:aR acc its.toList:=Uo;rcases turn i n acc H5 w5 with⟨stop,qn⟩|⟨go,QZ,step⟩
  ·refine B_ (T.done Y rfl rfl rfl W4 i _ s5 _ H5 (fun _ _=>False) VR (VD VB) Ul stop) ?_;rintro r s6 ⟨hr,I6⟩;subst hr;obtain⟨m6,YH,_⟩:=id I6.loc;obtain⟨p1,p2,_⟩:=I6.pin (s2.heap.objs.size,{ cls:=.type "list",data:=.seq its nn }) (by simp);have J0:Inv X pins σ (upd H5 s2.heap.objs.size (.lst acc)) s6:=qj (its:=its.toList) (Vz:=s6.heap) I2 f2 I6 Q5 (Nat.le_refl _) Tt Vx (show s6.heap.PlainList s2.heap.objs.size its.toList.toArray from⟨nn,by rw[Array.toArray_toList];exact p1⟩) Vk WM ⟨rfl,fun _ _=>rfl⟩;obtain⟨oC,esC,epC,gC,dC,Wl⟩:=YH;have c1:P2.objs.size≠X.env.locals:=fun z=>absurd (Nat.lt_of_lt_of_le I2.lt Q5) (by rw[z];exact Nat.lt_irrefl _);have c2:upd H5 s2.heap.objs.size (.lst acc) P2.objs.size=none:=by rw[aj (Ne.symm Tt)];exact I6.free
   have c3:P2.objs.size∉X.fs:=I2.Wv Q5
   have J1:Inv X ((P2.objs.size,oC)::pins) σ (upd H5 s2.heap.objs.size (.lst acc)) s6:=J0.Mh fun p hp=>by
    rcases List.mem_cons.mp hp with z|z
    ·subst z;exact⟨gC,c2,c1,c3,fun v z=>by rw[dC]at z;cases z⟩
    ·exact J0.pin p (List.mem_append_right _ z)
   have hg:=mR (X:=X) (i:=iy) (pos:=py) W7 hy (Or.inl V9) (.inr V9);refine B_ (hg _ s6 σ _ (.ref s2.heap.objs.size) (.ref s2.heap.objs.size) (fun σ' H'=>σ'=σ.set iy (some (.ref s2.heap.objs.size))∧H'=upd H5 s2.heap.objs.size (.lst acc)) J1 rfl ⟨rfl,rfl⟩) ?_;rintro _ s7 ⟨σ7,H7,I7,e7,e8⟩;subst e7 e8;refine⟨m6,⟨oC,esC,epC,(I7.pin (P2.objs.size,oC) (by simp)).1,dC,Wl⟩,fun h' sb=>?_⟩;have same:∀b,b≠P2.objs.size→h'.get? b=s7.heap.get? b:=fun b hb=>sb.2 b hb;have I8:Inv X pins (σ.set iy (some (.ref s2.heap.objs.size))) (upd H5 s2.heap.objs.size (.lst acc)) s7:=I7.Mh fun p hp=>I7.pin p (List.mem_append_right _ (List.mem_cons_of_mem _ hp));refine⟨_,_,I8.call' (s':={ s7 with heap:=h' }) (ch:=[P2.objs.size]) rfl ⟨fun b o q n hb hx=>?_,fun b o q n hb hx=>?_,fun b o q n hx=>n,fun b o q hx=>?_,fun b xs q=>q,fun b o u q=>q,fun b ps q=>⟨#[],by simpa using q⟩⟩ (fun b u e=>?_) I8.bare fun b hb=>?_,qn _ Vx⟩
   ·exact(same b (fun z=>hx (by rw[z];exact List.mem_singleton_self _))).trans q
   ·exact⟨o.slots,(same b (fun z=>hx (by rw[z];exact List.mem_singleton_self _))).trans q⟩
   ·exact⟨o,(same b (fun z=>hx (by rw[z];exact List.mem_singleton_self _))).trans q⟩
   ·refine(show bN X.prog X.w _ s7.heap b u from I8.hok b u e).stay (fun c v hc q=>(same c ?_).trans q) (fun _ q=>q) fun _ _ q=>q;rcases hc with z|z
    ·rw[z];intro z2;rw[z2,c2]at e;cases e
    ·intro z2;rw[z2,c2]at z;cases z
   ·rw[List.mem_singleton.mp hb];refine⟨.inr (Nat.le_trans I2.sz Q5),c1,fun x c h z=>?_,fun p hp z=>?_⟩
    ·obtain⟨v,q⟩:=I2.cell x c h;exact absurd (Nat.lt_of_lt_of_le q.lt Q5) (by rw[z];exact Nat.lt_irrefl _)
    ·have q:=(I2.pin p hp).1;exact absurd (Nat.lt_of_lt_of_le (Heap.lt_size q) Q5) (by rw[z];exact Nat.lt_irrefl _)
  ·refine B_ (T.item Y rfl rfl rfl W4 i _ s5 _ H5 (fun _ _=>False) VR (VD VB) Ul go) ?_;rintro r s6 ⟨u,hr,h6⟩;subst hr;refine B_ h6 ?_;rintro _ s7 ⟨v7,H7,I7,r7,y7,Vj,Y9⟩;have Zt:=I7.pinned (VD Y9) (T.obj _ _ Vj);have hg:PG Y (.Name x px) (wX 0):=mR (X:=Y) (i:=0) S.nd (by show M[0]? =some x;rw[S.inN];rfl) (Or.inl (lookup_relabel_local S.var)) (.inr (lookup_relabel_local S.var));refine B_ (hg _ s7 _ H7 v7 u (fun σ8 H8=>σ8=some v7::im j6 σ∧H8=H7) Zt r7 ⟨rfl,rfl⟩) ?_;rintro _ s8 ⟨σ8,H8,I8,e8,Zb⟩;subst e8 Zb;refine B_ (ht _ _ _ _ _ _ s8 _ _ _ I8 (step v7 _ y7)) ?_;rintro b s9 ⟨H9,I9,q9⟩
   have tail:∀{σ':St}{H':Hp}{s':Shared},Inv Y ([(s2.heap.objs.size,{ cls:=.type "list",data:=.seq its nn })]++ma fp s7.heap) σ' H' s'→
     tn (i+1) s'.heap∧(∀b∈fp,H' b=none)∧s'.heap.get? s2.heap.objs.size=some { cls:=.type "list",data:=.seq its nn }∧H' s2.heap.objs.size=none:=fun{σ' H' s'} J=>by
    refine⟨T.keep _ _ _ Vj fun b hb o e=>(J.pin (b,o) (List.mem_append_right _ (List.mem_append_right _ (fH hb e)))).1,fun b hb=>?_,?_⟩
    ·obtain⟨o,e,d⟩:=T.obj _ _ Vj b hb;exact(J.pin (b,o) (List.mem_append_right _ (List.mem_append_right _ (fH hb e)))).2.1
    ·have p:=J.pin (s2.heap.objs.size,{ cls:=.type "list",data:=.seq its nn }) (by simp);exact⟨p.1,p.2.1⟩
   cases b with
   |false=>
    obtain⟨m',hm,w9⟩:=(show∃m',m'<n∧W (i+1) m' acc H9 from by simpa using q9)
    obtain⟨t1,t2,t3,t4⟩:=tail I9;refine⟨m',hm,i+1,acc,H9,its,?_,t1,t2,t4,⟨nn,t3⟩,Uo,WM,w9⟩
    exact(I9.Mh (K3:=[]) fun p hp=>absurd hp (by simp)).weak (by simp) fun j w z=>by
     cases j with
     |zero=>simp at z
     |succ j=>simpa using z
   |true=>
    have Yn:te (some v7::im j6 σ) H9 fun y H3=>∃m',m'<n∧W (i+1) m' (acc++ [y]) H3:=by simpa using q9
    refine B_ (he _ _ _ _ _ _ s9 _ _ _ I9 Yn) ?_;rintro Yk Wj ⟨y,Xj,Xi,r10,m',hm,w10⟩;obtain⟨t1,t2,t3,t4⟩:=tail Xi;have lz:its.size=acc.length:=by rw[Uo.length];simp
    refine wpAny_list_append_plain ⟨nn,t3⟩ (fun h' WX Wi=>?_) (by omega)
    have Zu:Inv Y [] (some v7::im j6 σ) Xj { Wj with heap:=h',toks:=Wj.toks }:=
     (Xi.Mh (K3:=[]) fun p hp=>absurd hp (by simp)).turned (it:=s2.heap.objs.size) (fun b o hb e=>(Wi.2 b hb).trans e) t4 Tt (.inr (Nat.le_refl _)) T_ (fun p hp=>absurd (show p∈([]:List (Addr×Obj))from hp) (by simp))
    refine⟨m',hm,i+1,acc++ [y],Xj,its.push Yk,?_,T.keep _ _ _ t1 (fun b hb o e=>(Wi.2 b (fun z=>W9 (z▸hb))).trans e),t2,t4,WX,?_,?_,w10⟩
    ·exact Zu.weak (by simp) fun j w z=>by
      cases j with
      |zero=>simp at z
      |succ j=>simpa using z
    ·rw[Array.toList_push];exact Uo.append (.cons r10 .nil)
    ·rw[List.length_append,List.length_singleton];omega
 exact codeAny_compStart_list (loop _ rfl) (T.self X.A 0 _ _ _ (T.keep 0 _ _ TF (fun b hb o e=>old b o e)) (loop _ rfl))
end
end L2
set_option autoImplicit false
namespace L2
open PySem PySem.Spec PyProof.Rows
theorem bN.there{P:Program}{w:World}{H:Hp}{h:Heap}{a:Addr}{o:HO}(x:bN P w H h a o):∃ob,h.get? a=some ob:=by
 cases o with
 |lst xs=>obtain⟨_,_,_,_,e⟩:=x;exact⟨_,e⟩
 |tup xs=>obtain⟨_,_,_,ob,e,_⟩:=x;exact⟨_,e⟩
 |dK kvs=>obtain⟨_,_,_,_,o,_,_,e,_⟩:=x;exact⟨_,e⟩
 |dT kvs=>obtain⟨_,_,_,_,o,_,_,e,_⟩:=x;exact⟨_,e⟩
 |set S n=>obtain⟨o,_,_,_,e,_⟩:=x;exact⟨_,e⟩
 |ins C dx fs=>obtain⟨_,_,_,e,_⟩:=x;exact⟨_,e⟩
 |own y=>exact x
 |xd fs=>obtain⟨_,⟨_,_,_,e,_⟩,_⟩:=x;exact⟨_,e⟩
 |rng lo hi=>obtain⟨_,_,_,e⟩:=x;exact⟨_,e⟩
 |Py ob u=>obtain⟨e,_⟩:=x;exact⟨_,e⟩
 |UW ps=>exact⟨_,show h.get? a=some _ from x⟩
 |met f y=>exact⟨_,show h.get? a=some _ from x⟩
 |ext φ=>obtain⟨_,z,_⟩:=x;exact z
noncomputable def LL(a:Addr)(cls:Value):HO:=.ext fun h=>∃o vs,h.get? a=some o∧o.cls=cls∧o.data=.fields vs
open PySem.W PySem.Builtin PySem.Builtin.ObjectAttr PySem.Builtin.Getset_descriptor
section
variable{X:Cx}{pins:List (Addr×Obj)}{σ:St}{H:Hp}{s:Shared}{a:Addr}{kvs:List (Key×V)}
theorem Inv.Py(I:Inv X pins σ H s)(e:H a=some (.dK kvs)):∃o,Inv X pins σ (upd H a (.Py o (.dK kvs))) s:=by
 obtain⟨z,y,vs,r,o,es,ep,ho,rest⟩:=(show bN X.prog X.w H s.heap a (.dK kvs)from I.hok a _ e)
 refine⟨o,?_⟩
 have un:Un X.fs [] H (upd H a (.Py o (.dK kvs))) s.heap s.heap:=by
  refine⟨fun b u q _ _ _=>q,fun b u q _ _ _=>⟨u.slots,q⟩,fun b u q n _=>?_,fun b u q _=>⟨u,q⟩,fun b xs q=>?_,fun b u v q=>?_,fun b ps q=>⟨#[],?_⟩⟩
  ·have:b≠a:=fun w=>by subst w;rw[n]at e;cases e
   rw[aj this];exact n
  ·have:b≠a:=pS q e (by intro w;cases w);rw[aj this];exact q
  ·have:b≠a:=pS q e (by intro w;cases w);rw[aj this];exact q
  ·have:b≠a:=pS q e (by intro w;cases w);rw[aj this,q];simp
 have hok:Oc X.prog X.w (upd H a (.Py o (.dK kvs))) s.heap:=fun b u q=>by
  by_cases hb:b=a
  ·subst hb;rw[aK]at q
   cases q
   exact⟨ho,z,y,vs,r,o,es,ep,ho,rest⟩
  ·rw[aj hb]at q;refine(I.hok b u q).stay (fun _ _ _ w=>w) (fun c w=>?_) fun c xs w=>?_
   ·have:c≠a:=pS w e (by intro w;cases w);rw[aj this];exact w
   ·have:c≠a:=pS w e (by intro w;cases w);rw[aj this];exact w
 exact I.un (t':=s.toks) un hok
def tFz(t:TE):TE:=fun σ H Q=>t σ H fun v H1=>Q v H1∨∃a kvs,H1 a=some (.dK kvs)∧∀o,Q v (upd H1 a (.Py o (.dK kvs)))
theorem EF{e:Expr}{t:TE}(h:PE X e t):PE X e (tFz t):=fun pins s σ H Q I q=>
 B_ (h pins s σ H _ I q) fun u s1 ⟨v,H1,I1,rv,q1⟩=>by
  rcases q1 with q1|⟨a,kvs,ea,q1⟩
  ·exact⟨v,H1,I1,rv,q1⟩
  ·obtain⟨o,I2⟩:=I1.Py ea;exact⟨v,_,I2,rv,q1 o⟩
end
def Zr(a:Addr)(o:Obj)(kvs:List (Key×V)):It:=
 ⟨fun i H=>H a=some (.Py o (.dK kvs))∧i<kvs.length,fun i H x H'=>H'=H∧∃k v,kvs[i]? =some (k,v)∧x=kV k,fun i H=>H a=some (.Py o (.dK kvs))∧kvs.length≤i⟩
theorem AY{P:Program}{w:World}{k:Key}{u:Value}(h:(aY P w).is k u=true):aX (kV k) u:=by
 rw[uU]at h;rcases bJ h with⟨i,t,rfl,rfl⟩|⟨x,t,rfl,rfl⟩
 ·exact⟨t,rfl⟩
 ·exact⟨t,rfl⟩
theorem KV.at{kvs:List (Key×V)}{vs:List (Key×Value)}(r:KV kvs vs){i:Nat}{k:Key}{v:V}(e:kvs[i]? =some (k,v)):∃u,vs[i]? =some (k,u):=by
 unfold KV at r
 induction r generalizing i with
 |nil=>simp at e
 |@cons p q ps qs h t ih=>
  cases i with
  |zero=>simp at e;subst e;exact⟨q.2,by simp[show k=q.1 from h.1]⟩
  |succ i=>exact ih (by simpa using e)
theorem vo{P:Program}{w:World}{H:Hp}{h:Heap}{a:Addr}{o:Obj}{es:Array DictEntry}{ep:Nat}{kvs:List (Key×V)}(ed:o.data=.dict es ep)(ok:Oc P w H h)(e:H a=some (.Py o (.dK kvs))):
  (a==sysModules)=false∧∃vs,KV kvs vs∧h.DictAt (aY P w) a vs ep:=by
 obtain⟨ho,_,y,vs,r,o',XQ,XR,RZ,c1,c2,rest⟩:=(show bN P w H h a (.Py o (.dK kvs))from ok a _ e)
 rw[ho]at RZ
 cases RZ
 rw[ed]at c2
 cases c2
 exact⟨y,vs,r,o,es,ho,c1,ed,rest⟩
theorem xE{P:Program}{w:World}{K:W.Frag}{tg:Expr}(a it:Addr)(o:Obj){es:Array DictEntry}{ep:Nat}(kvs:List (Key×V))(ed:o.data=.dict es ep):
  rM P w K tg (Zr a o kvs) [it] it (fun i h=>h.IsKeyIter it a i kvs.length ep) where
 mem:=by simp
 obj:=fun i h st b hb=>by
  have e:b=it:=by simpa using hb
  subst e;obtain⟨q,e,c,d⟩:=st;exact⟨q,e,fun v z=>by rw[d]at z;cases z⟩
 keep:=fun i h h' st k=>st.at fun q e=>k it (by simp) q e
 item:=by
  intro X hP hw hK hc i pins s σ H E I hf st hg;subst hP hw hK;obtain⟨ea,hi⟩:=hg;obtain⟨_,vs,r,dd⟩:=vo ed I.hok ea;obtain⟨⟨k,v⟩,hx⟩:∃p,kvs[i]? =some p:=⟨kvs[i],by simp[hi]⟩
  obtain⟨u,hu⟩:=r.at hx;obtain⟨f0,f1,f2,f3,f4,f5⟩:=hf it (by simp);have hl:=r.length;rw[hl]at st ⊢;refine wpAny_pyNext_dict_item st dd hu fun key h' SX Qt sb=>?_;have I1:Inv X pins σ H { s with heap:=h' }:=I.turned (t':=s.toks) (fun b q hb e=>(sb.2 b hb).trans e) f0 f1 f3 f4 f5;exact⟨key,rfl,letGo_keyiter Qt ⟨kV k,H,I1,AY SX,⟨rfl,k,v,hx,rfl⟩,Qt,fun b hb=>(hf b hb).1⟩⟩
 done:=by intro X hP hw hK hc i pins s σ H E I hf st hg;subst hP hw hK;obtain⟨ea,hi⟩:=hg;obtain⟨_,vs,r,dd⟩:=vo ed I.hok ea;obtain⟨f0,f1,f2,f3,f4,f5⟩:=hf it (by simp);have hl:=r.length;rw[hl]at st hi;exact wpAny_pyNext_dict_end (I.ok.hd hc) st dd (by simp;omega) fun h' eb=>⟨rfl,I.turned (t':=s.toks) (fun b q hb e=>eb b q hb e) f0 f1 f3 f4 f5⟩
 self:=fun _ _ _ _ _ st h=>wpAny_pyIter_keyiter st h
def Ld(tl:TE):TI:=fun σ H R=>tl σ H fun x H1=>∃a o kvs,x=.ref a∧H1 a=some (.Py o (.dK kvs))∧R (Zr a o kvs) H1
theorem Dd{X:Cx}{tg l:Expr}{tl:TE}(hl:PE X l tl):PI X tg l (Ld tl):=by
 intro pins s σ H R I h;refine B_ (hl pins s σ H _ I h) ?_;rintro v s1 ⟨x,H1,I1,r1,q1⟩;obtain⟨a,o,kvs,e,ea,q⟩:=q1;subst e
 cases r1
 obtain⟨es,ep,ed⟩:∃es ep,o.data=.dict es ep:=by
  obtain⟨ho,_,_,_,_,o',es,ep,RZ,_,c2,_⟩:=(show bN X.prog X.w H1 s1.heap a (.Py o (.dK kvs))from I1.hok a _ ea)
  rw[ho]at RZ
  cases RZ
  exact⟨es,ep,c2⟩
 obtain⟨sm,vs,r,dd⟩:=vo ed I1.hok ea;refine wpAny_pyIter_dict sm dd ?_;refine⟨s1.heap.objs.size,[s1.heap.objs.size],_,_,H1,rfl,I1.kept (t':=s1.toks) fun b q e=>Heap.get?_push_of_some _ e,xE a _ o kvs ed,⟨_,Heap.get?_push_size _ rfl,rfl,by rw[r.length];rfl⟩,fun b hb=>?_,q⟩;have e:b=s1.heap.objs.size:=by simpa using hb
 subst e;exact I1.QV (Nat.le_refl _) (I1.hok.fresh (Nat.le_refl _))
end L2
namespace L3
open PySem PySem.Spec PyProof.Rows L2
abbrev St:=L2.St
abbrev PK:=Sum Int (List Nat)
noncomputable def S(l:List Nat):Str:=⟨l.toArray⟩
theorem EX(l:List Nat):(S l).cps.toList=l:=by simp[S]
theorem LI(x:Str):S x.cps.toList=x:=by cases x;simp[S]
theorem EW{a b:List Nat}(h:S a=S b):a=b:=by have:=congrArg (fun x=>x.cps.toList) h;simpa[S]using this
theorem fj(l:List Nat):(S l).length=l.length:=by show(S l).cps.size=_;simp[S]
def tk:PK→Key
 |.inl i=>.inl i
 |.inr l=>.inr (S l)
theorem qD{a b:PK}(h:tk a=tk b):a=b:=by
 cases a<;>cases b<;>simp[tk]at h
 ·rw[h]
 ·rw[EW h]
inductive PV where
 |non|bl (b:Bool)|int (i:Int)|str (x:List Nat)|ty (n:String)|cls (C:Nat)
 |tup (xs:List PV)|lst (xs:List PV)|Mv (xs:List PV)|dct (kvs:List (PK×PV))|ins (C:Nat) (fs:List (Str×PV))
 |ref (i:Nat)|exc (C:Nat)
mutual
def PV.pure:PV→Bool
 |.ref _=>false
 |.tup xs=>aI xs
 |.lst xs=>aI xs
 |.Mv xs=>aI xs
 |.dct kvs=>gc kvs
 |.ins _ fs=>lZ fs
 |_=>true
def aI:List PV→Bool
 |[]=>true
 |x::r=>x.pure&&aI r
def gc:List (PK×PV)→Bool
 |[]=>true
 |(_,x)::r=>x.pure&&gc r
def lZ:List (Str×PV)→Bool
 |[]=>true
 |(_,x)::r=>x.pure&&lZ r
end
theorem kr:∀(l:List (PK×PV)),gc l=aI (l.map (·.2))
 |[]=>by simp[aI,gc]
 |(k,x)::r=>by simp[aI,gc,kr r]
theorem nO:∀(l:List (Str×PV)),lZ l=aI (l.map (·.2))
 |[]=>by simp[aI,lZ]
 |(k,x)::r=>by simp[aI,lZ,nO r]
abbrev Tab:=Nat→Option Addr
mutual
inductive aL(K:W.Frag)(T:Tab)(F:Hp)(m:List Addr):PV→V→Prop where
 |non:aL K T F m .non .non
 |bl (b:Bool):aL K T F m (.bl b) (.bl b)
 |int (i:Int):aL K T F m (.int i) (.int i)
 |str (x:List Nat):aL K T F m (.str x) (.str (S x))
 |ty (n:String):aL K T F m (.ty n) (.ty n)
 |cls {C:Nat} {a:Addr} (c:T C=some a):aL K T F m (.cls C) (.ref a)
 |tup {ps:List PV} {a:Addr} {vs:List V} (e:Nf K F a vs) (r:aq K T F m ps vs):aL K T F m (.tup ps) (.ref a)
 |lst {ps:List PV} {a:Addr} {vs:List V} (e:F a=some (.lst vs)) (r:aq K T F m ps vs):aL K T F m (.lst ps) (.ref a)
 |Mv {ps:List PV} {a:Addr} {vs:List V} (e:Mq K F a vs) (r:aq K T F m ps vs):aL K T F m (.Mv ps) (.ref a)
 |dct {kps:List (PK×PV)} {a:Addr} {o:Obj} {kvs:List (Key×V)} (e:F a=some (.Py o (.dK kvs))) (k:kvs.map (·.1)=kps.map (fun p=>tk p.1)) (r:aq K T F m (kps.map (·.2)) (kvs.map (·.2))):aL K T F m (.dct kps) (.ref a)
 |ins {C:Nat} {fs:List (Str×PV)} {a Ca dx:Addr} {V_:List (Str×V)} (c:T C=some Ca) (e:F a=some (.ins Ca dx V_)) (d:F dx=some (.own a)) (k:V_.map (·.1)=fs.map (·.1)) (r:aq K T F m (fs.map (·.2)) (V_.map (·.2))):aL K T F m (.ins C fs) (.ref a)
 |ref {i:Nat} {a:Addr} (e:m[i]? =some a):aL K T F m (.ref i) (.ref a)
 |exc {C:Nat} {a Ca:Addr} (c:T C=some Ca) (e:F a=some (LL a (.ref Ca))):aL K T F m (.exc C) (.ref a)
inductive aq(K:W.Frag)(T:Tab)(F:Hp)(m:List Addr):List PV→List V→Prop where
 |nil:aq K T F m [] []
 |cons {p:PV} {v:V} {ps:List PV} {vs:List V} (r:aL K T F m p v) (t:aq K T F m ps vs):aq K T F m (p::ps) (v::vs)
end
section
variable{K:W.Frag}{T:Tab}{F F':Hp}{m m':List Addr}
theorem aL.mono(hF:cy F F')(hm:∀(i:Nat)(a:Addr),m[i]? =some a→m'[i]? =some a){p:PV}{v:V}(h:aL K T F m p v):aL K T F' m' p v:=
 aL.rec (motive_1:=fun p v _=>aL K T F' m' p v) (motive_2:=fun p v _=>aq K T F' m' p v) .non .bl .int .str .ty .cls (fun e _ r=>.tup (hF.O9 e) r) (fun e _ r=>.lst (hF _ _ e) r) (fun e _ r=>.Mv (hF.seq e) r) (fun e k _ r=>.dct (hF _ _ e) k r) (fun c e d k _ r=>.ins c (hF _ _ e) (hF _ _ d) k r) (fun e=>.ref (hm _ _ e)) (fun c e=>.exc c (hF _ _ e)) .nil (fun _ _ r t=>.cons r t) h
theorem aq.mono(hF:cy F F')(hm:∀(i:Nat)(a:Addr),m[i]? =some a→m'[i]? =some a):∀{p:List PV}{v:List V},aq K T F m p v→aq K T F' m' p v
 |_,_,.nil=>.nil
 |_,_,.cons r t=>.cons (r.mono hF hm) (aq.mono hF hm t)
theorem aL.I_{p:PV}{v:V}(h:aL K T F m p v):p.pure=true→aL K T F m' p v:=by
 refine aL.rec (motive_1:=fun p v _=>p.pure=true→aL K T F m' p v) (motive_2:=fun p v _=>aI p=true→aq K T F m' p v) (fun _=>.non) (fun b _=>.bl b) (fun i _=>.int i) (fun x _=>.str x) (fun n _=>.ty n) (fun c _=>.cls c) ?_ ?_ ?_ ?_ ?_ ?_ (fun c e _=>.exc c e) (fun _=>.nil) ?_ h
 ·intro _ _ _ e _ r h;rw[PV.pure]at h;exact .tup e (r h)
 ·intro _ _ _ e _ r h;rw[PV.pure]at h;exact .lst e (r h)
 ·intro _ _ _ e _ r h;rw[PV.pure]at h;exact .Mv e (r h)
 ·intro _ _ _ _ e k _ r h;rw[PV.pure,kr]at h;exact .dct e k (r h)
 ·intro _ _ _ _ _ _ c e d k _ r h;rw[PV.pure,nO]at h;exact .ins c e d k (r h)
 ·intro _ _ _ h;rw[PV.pure]at h;cases h
 ·intro _ _ _ _ _ _ r t h;rw[aI,Bool.and_eq_true]at h;exact .cons (r h.1) (t h.2)
theorem aq.I_:∀{p:List PV}{v:List V},aq K T F m p v→aI p=true→aq K T F m' p v
 |_,_,.nil,_=>.nil
 |_,_,.cons r t,h=>by rw[aI,Bool.and_eq_true]at h;exact .cons (r.I_ h.1) (aq.I_ t h.2)
theorem aq.length:∀{p:List PV}{v:List V},aq K T F m p v→p.length=v.length
 |_,_,.nil=>rfl
 |_,_,.cons _ t=>by simp[aq.length t]
theorem aq.get:∀{ps:List PV}{vs:List V}{i:Nat}{p:PV},aq K T F m ps vs→ps[i]? =some p→∃v,vs[i]? =some v∧aL K T F m p v
 |_,_,_,_,.nil,e=>by simp at e
 |_,_,0,_,.cons r _,e=>by simp at e;subst e;exact⟨_,rfl,r⟩
 |_,_,i+1,p,.cons _ t,e=>by obtain⟨u,h1,h2⟩:=aq.get (i:=i) (p:=p) t (by simpa using e);exact⟨u,by simpa using h1,h2⟩
theorem aq.append:∀{ps qs:List PV}{vs ws:List V},aq K T F m ps vs→aq K T F m qs ws→aq K T F m (ps++qs) (vs++ws)
 |_,_,_,_,.nil,s=>s
 |_,_,_,_,.cons r t,s=>.cons r (aq.append t s)
theorem aq.take:∀{ps:List PV}{vs:List V}(n:Nat),aq K T F m ps vs→aq K T F m (ps.take n) (vs.take n)
 |_,_,0,_=>.nil
 |_,_,_+1,.nil=>.nil
 |_,_,n+1,.cons r t=>.cons r (aq.take n t)
theorem aq.drop:∀{ps:List PV}{vs:List V}(n:Nat),aq K T F m ps vs→aq K T F m (ps.drop n) (vs.drop n)
 |_,_,0,r=>r
 |_,_,_+1,.nil=>.nil
 |_,_,n+1,.cons _ t=>aq.drop n t
theorem aq.set{x:PV}{u:V}(r:aL K T F m x u):∀{xs:List PV}{us:List V}(i:Nat),aq K T F m xs us→aq K T F m (xs.set i x) (us.set i u)
 |_,_,_,.nil=>.nil
 |_,_,0,.cons _ t=>.cons r t
 |_,_,i+1,.cons q t=>.cons q (aq.set r i t)
end
inductive PO where
 |lst (xs:List PV)|dct (kvs:List (PK×PV))|o9 (v:PV)
section
variable(K:W.Frag)(T:Tab)(F:Hp)(m:List Addr)
def BL(H:Hp)(a:Addr):PO→Prop
 |.lst ps=>F a=none∧∃vs,H a=some (.lst vs)∧aq K T F m ps vs
 |.dct kps=>F a=none∧∃kvs,H a=some (.dK kvs)∧kvs.map (·.1)=kps.map (fun p=>tk p.1)∧aq K T F m (kps.map (·.2)) (kvs.map (·.2))
 |.o9 p=>aL K T F m p (.ref a)∧p.pure=true∧∃o,F a=some o
structure RelH(h:List PO)(H:Hp):Prop where
 same:cy F H
 len:h.length=m.length
 obj:∀(i:Nat)(o:PO)(a:Addr),h[i]? =some o→m[i]? =some a→BL K T F m H a o
 nd:m.Nodup
def lU(ρ:List (Option PV))(σ:St):Prop:=ρ.length=σ.length∧∀(i:Nat)(p:PV),ρ[i]? =some (some p)→∃v,σ[i]? =some (some v)∧aL K T F m p v
structure gZ(ρ:List (Option PV))(h:List PO)(σ:St)(H:Hp):Prop extends RelH K T F m h H where
 env:lU K T F m ρ σ
end
structure bf(F:Hp)(m:List Addr)(H F':Hp)(m':List Addr)(H':Hp):Prop where
 fz:cy F F'
 pre:∃t,m'=m++t
 fr:∀b o,H b=some o→b∉m→H' b=some o
 dom:∀b o,H b=some o→∃o',H' b=some o'
 new:∀(i:Nat)(a:Addr),m.length≤i→m'[i]? =some a→H a=none
 Pz:∀a o,F' a=some o→F a=some o∨H a=none∨a∈m
section
variable{K:W.Frag}{T:Tab}{F F1 F2 H H1 H2:Hp}{m m1 m2:List Addr}
theorem bf.refl:bf F m H F m H:=⟨cy.refl _,⟨[],by simp⟩,fun _ _ h _=>h,fun _ o h=>⟨o,h⟩,fun i a h e=>(by rw[List.getElem?_eq_none h]at e;cases e),fun _ _ h=>.inl h⟩
theorem bf.idx(s:bf F m H F1 m1 H1):∀(i:Nat)(a:Addr),m[i]? =some a→m1[i]? =some a:=fun i a e=>by
 obtain⟨t,rfl⟩:=s.pre
 have hi:i<m.length:=by
  rcases Nat.lt_or_ge i m.length with h|h
  ·exact h
  ·rw[List.getElem?_eq_none h]at e;cases e
 rw[List.getElem?_append_left hi];exact e
theorem bf.mem(s:bf F m H F1 m1 H1){a:Addr}(h:a∈m1):a∈m∨H a=none:=by
 obtain⟨i,e⟩:=List.mem_iff_getElem?.mp h;obtain⟨t,rfl⟩:=s.pre;rcases Nat.lt_or_ge i m.length with hi|hi
 ·rw[List.getElem?_append_left hi]at e;exact .inl (List.mem_of_getElem? e)
 ·exact .inr (s.new i a hi e)
theorem bf.back(s:bf F m H F1 m1 H1){a:Addr}(h:H1 a=none):H a=none:=by
 cases q:H a with
 |none=>rfl
 |some o=>obtain⟨o',e⟩:=s.dom a o q;rw[h]at e;cases e
theorem bf.trans(s:bf F m H F1 m1 H1)(t:bf F1 m1 H1 F2 m2 H2):bf F m H F2 m2 H2 where
 fz:=s.fz.trans t.fz
 pre:=by obtain⟨x,rfl⟩:=s.pre;obtain⟨y,rfl⟩:=t.pre;exact⟨x++y,by simp⟩
 fr:=fun b o h n=>t.fr b o (s.fr b o h n) fun z=>by
  rcases s.mem z with q|q
  ·exact n q
  ·rw[h]at q;cases q
 dom:=fun b o h=>by obtain⟨o',e⟩:=s.dom b o h;exact t.dom b o' e
 new:=fun i a hi e=>by
  obtain⟨x,rfl⟩:=s.pre;rcases Nat.lt_or_ge i (m++x).length with h|h
  ·obtain⟨y,rfl⟩:=t.pre;rw[List.getElem?_append_left h]at e;exact s.new i a hi e
  ·exact s.back (t.new i a h e)
 Pz:=fun a o h=>by
  rcases t.Pz a o h with q|q|q
  ·exact s.Pz a o q
  ·exact .inr (.inl (s.back q))
  ·rcases s.mem q with z|z
   ·exact .inr (.inr z)
   ·exact .inr (.inl z)
theorem bf.rep(s:bf F m H F1 m1 H1){p:PV}{v:V}(r:aL K T F m p v):aL K T F1 m1 p v:=r.mono s.fz s.idx
theorem bf.reps(s:bf F m H F1 m1 H1){p:List PV}{v:List V}(r:aq K T F m p v):aq K T F1 m1 p v:=r.mono s.fz s.idx
theorem bf.env(s:bf F m H F1 m1 H1){ρ:List (Option PV)}{σ:St}(r:lU K T F m ρ σ):lU K T F1 m1 ρ σ:=⟨r.1,fun i p e=>by obtain⟨v,h1,h2⟩:=r.2 i p e;exact⟨v,h1,s.rep h2⟩⟩
theorem bf.lay{h:List PO}{p:Addr}{o:HO}(R:RelH K T F m h H)(hp:H p=none):bf F m H (upd F p o) m (upd H p o)∧RelH K T (upd F p o) m h (upd H p o):=by
 have hF:F p=none:=R.same.free hp;have sF:cy F (upd F p o):=eQ hF o;refine⟨⟨sF,⟨[],by simp⟩,fun b u e _=>by rw[aj (aE e hp)];exact e,fun b u e=>⟨u,by rw[aj (aE e hp)];exact e⟩,fun i a hi e=>(by rw[List.getElem?_eq_none hi]at e;cases e),fun a u e=>?_⟩,?_⟩
 ·by_cases ha:a=p
  ·subst ha;exact .inr (.inl hp)
  ·rw[aj ha]at e;exact .inl e
 ·refine⟨fun b u e=>?_,R.len,fun i ob a h1 h2=>?_,R.nd⟩
  ·by_cases ha:b=p
   ·subst ha;rw[aK]at e ⊢;exact e
   ·rw[aj ha]at e ⊢;exact R.same b u e
  ·have q:=R.obj i ob a h1 h2;have mono:∀{ps vs},aq K T F m ps vs→aq K T (upd F p o) m ps vs:=fun r=>r.mono sF fun _ _ h=>h
   cases ob with
   |lst ps=>obtain⟨f,vs,e,r⟩:=q;have ne:a≠p:=aE e hp;exact⟨by rw[aj ne];exact f,vs,by rw[aj ne];exact e,mono r⟩
   |dct kps=>obtain⟨f,kvs,e,k,r⟩:=q;have ne:a≠p:=aE e hp;exact⟨by rw[aj ne];exact f,kvs,by rw[aj ne];exact e,k,mono r⟩
   |o9 pv=>obtain⟨r,pu,u,e⟩:=q;exact⟨r.mono sF fun _ _ h=>h,pu,u,sF _ _ e⟩
end
inductive Res(α:Type) where
 |ok (a:α) (h:List PO)|exc (e:PV) (h:List PO)|bad
noncomputable def Res.bind{α β:Type}(r:Res α)(k:α→List PO→Res β):Res β:=match r with
 |.ok a h=>k a h
 |.exc e h=>.exc e h
 |.bad=>.bad
@[simp] theorem Res.G4{α β:Type}(a:α)(h:List PO)(k:α→List PO→Res β):(Res.ok a h).bind k=k a h:=rfl
@[simp] theorem Res.Xc{α β:Type}(a:PV)(h:List PO)(k:α→List PO→Res β):(Res.exc a h).bind k=.exc a h:=rfl
@[simp] theorem Res.Xd{α β:Type}(k:α→List PO→Res β):(Res.bad).bind k=.bad:=rfl
def aG{α β:Type}(K:W.Frag)(T:Tab)(R:Hp→List Addr→α→β→Prop)(F:Hp)(m:List Addr)(H:Hp)(Q:β→Hp→Prop)(Ew:VK):Res α→Prop
 |.ok a h'=>∀F' m' H' x,bf F m H F' m' H'→RelH K T F' m' h' H'→R F' m' a x→Q x H'
 |.exc e h'=>∀F' m' H' v,bf F m H F' m' H'→RelH K T F' m' h' H'→aL K T F' m' e v→Ew v H'
 |.bad=>False
section
variable{K:W.Frag}{T:Tab}{F F1 H H1:Hp}{m m1:List Addr}{α β γ δ:Type}{R:Hp→List Addr→α→β→Prop}{R':Hp→List Addr→γ→δ→Prop}{Ew:VK}
theorem aG.step{Q:β→Hp→Prop}{res:Res α}(s:bf F m H F1 m1 H1)(p:aG K T R F m H Q Ew res):aG K T R F1 m1 H1 Q Ew res:=by
 cases res with
 |ok a h=>exact fun F' m' H' x t=>p F' m' H' x (s.trans t)
 |exc e h=>exact fun F' m' H' x t=>p F' m' H' x (s.trans t)
 |bad=>exact p
theorem aG.bind{Q:δ→Hp→Prop}{res:Res α}{k:α→List PO→Res γ}(p:aG K T R' F m H Q Ew (res.bind k)):
  aG K T R F m H (fun x H1=>∃F1 m1 h1 a,bf F m H F1 m1 H1∧RelH K T F1 m1 h1 H1∧R F1 m1 a x∧aG K T R' F1 m1 H1 Q Ew (k a h1)) Ew res:=by
 cases res with
 |ok a h=>exact fun F' m' H' x s r q=>⟨F',m',h,a,s,r,q,aG.step s p⟩
 |exc e h=>exact p
 |bad=>exact p
theorem aG.mono{Q Q':β→Hp→Prop}{res:Res α}(p:aG K T R F m H Q Ew res)(hq:∀x H',Q x H'→Q' x H'):aG K T R F m H Q' Ew res:=by
 cases res with
 |ok a h=>exact fun F' m' H' x s r q=>hq _ _ (p F' m' H' x s r q)
 |exc e h=>exact p
 |bad=>exact p
theorem aG.here{Q:β→Hp→Prop}{a:α}{h:List PO}{x:β}(p:aG K T R F m H Q Ew (.ok a h))(R0:RelH K T F m h H)(r:R F m a x):Q x H:=p F m H x .refl R0 r
end
abbrev Ev:=List (Option PV)
abbrev Ex:=Ev→List PO→Res PV
abbrev Tx:=Ev→List PO→Res Bool
abbrev Ax:=Ev→List PO→Res (List PV)
def RB:Hp→List Addr→Bool→Bool→Prop:=fun _ _ a b=>a=b
section
variable(X:Cx)(T:Tab)(Ew:VK)
noncomputable def wE(f:Ex):TE:=fun σ H Q=>∃F m ρ h,gZ X.K T F m ρ h σ H∧aG X.K T (aL X.K T) F m H Q Ew (f ρ h)
noncomputable def wT(f:Tx):TT:=fun σ H Q=>∃F m ρ h,gZ X.K T F m ρ h σ H∧aG X.K T RB F m H Q Ew (f ρ h)
noncomputable def wA(f:Ax):TA:=fun σ H Q=>∃F m ρ h,gZ X.K T F m ρ h σ H∧aG X.K T (aq X.K T) F m H Q Ew (f ρ h)
@[irreducible] def RE(e:Expr)(f:Ex):Prop:=PE X e (wE X T Ew f)
@[irreducible] def RT(e:Expr)(f:Tx):Prop:=PT X e (wT X T Ew f)
@[irreducible] def RA(es:List Expr)(f:Ax):Prop:=PA X es (wA X T Ew f)
end
theorem PE.imp{X:Cx}{e:Expr}{t t':TE}(h:PE X e t)(i:∀ σ H Q,t' σ H Q→t σ H Q):PE X e t':=fun pins s σ H Q I q=>h pins s σ H Q I (i _ _ _ q)
theorem PT.imp{X:Cx}{e:Expr}{t t':TT}(h:PT X e t)(i:∀ σ H Q,t' σ H Q→t σ H Q):PT X e t':=fun pins s σ H Q I q=>h pins s σ H Q I (i _ _ _ q)
theorem PW.imp{X:Cx}{e:Expr}{t t':TT}(h:PW X e t)(i:∀ σ H Q,t' σ H Q→t σ H Q):PW X e t':=fun w pins s σ H Q I q=>h w pins s σ H Q I (i _ _ _ q)
theorem PA.imp{X:Cx}{es:List Expr}{t t':TA}(h:PA X es t)(i:∀ σ H Q,t' σ H Q→t σ H Q):PA X es t':=fun pos pins s σ H Q I q=>h pos pins s σ H Q I (i _ _ _ q)
theorem PS.imp{X:Cx}{e:Stmt}{t t':TS}(h:PS X e t)(i:∀D σ H,t' D σ H→t D σ H):PS X e t':=fun pins s σ H D I q=>h pins s σ H D I (i _ _ _ q)
theorem RK.imp{X:Cx}{e:List Stmt}{t t':TS}(h:RK X e t)(i:∀D σ H,t' D σ H→t D σ H):RK X e t':=fun pins s σ H D I q=>h pins s σ H D I (i _ _ _ q)
noncomputable def ay(h:List PO):PV→PV
 |.ref i=>match h[i]? with
  |some (.o9 q)=>q
  |_=>.ref i
 |p=>p
theorem RelH.R9{K:W.Frag}{T:Tab}{F H:Hp}{m:List Addr}{h:List PO}(R:RelH K T F m h H){p:PV}{v:V}(r:aL K T F m p v):aL K T F m (ay h p) v:=by
 cases r with
 |@ref i a e=>
  show aL K T F m (match h[i]? with|some (.o9 q)=>q|_=>.ref i) (.ref a)
  cases q:h[i]? with
  |none=>exact .ref e
  |some o=>
   cases o with
   |o9 p=>exact(R.obj i _ a q e).1
   |lst _=>exact .ref e
   |dct _=>exact .ref e
 |non=>exact .non
 |bl b=>exact .bl b
 |int b=>exact .int b
 |str b=>exact .str b
 |ty b=>exact .ty b
 |cls c=>exact .cls c
 |tup e r=>exact .tup e r
 |lst e r=>exact .lst e r
 |Mv e r=>exact .Mv e r
 |dct e k r=>exact .dct e k r
 |ins c e d k r=>exact .ins c e d k r
 |exc c e=>exact .exc c e
noncomputable def ae(i:Nat):Ex:=fun ρ h=>match ρ[i]? with
 |some (some p)=>.ok (ay h p) h
 |_=>.bad
noncomputable def cK(v:PV):Ex:=fun _ h=>.ok v h
def c1(g:PV→List PO→Res PV)(a:Ex):Ex:=fun ρ h=>(a ρ h).bind g
def c2(g:PV→PV→List PO→Res PV)(a b:Ex):Ex:=fun ρ h=>(a ρ h).bind fun x h1=>(b ρ h1).bind fun y h2=>g x y h2
def cN(g:List PV→List PO→Res PV)(a:Ax):Ex:=fun ρ h=>(a ρ h).bind g
noncomputable def ag:Ax:=fun _ h=>.ok [] h
def aa(a:Ex)(r:Ax):Ax:=fun ρ h=>(a ρ h).bind fun x h1=>(r ρ h1).bind fun xs h2=>.ok (x::xs) h2
section
variable{X:Cx}{T:Tab}{Ew:VK}
theorem Ez{e:Expr}{t:TE}{f:Ex}(h:PE X e t)(i:∀ σ H Q F m ρ h,gZ X.K T F m ρ h σ H→aG X.K T (aL X.K T) F m H Q Ew (f ρ h)→t σ H Q):RE X T Ew e f:=by with_unfolding_all exact(
 PE.imp h (by rintro σ H Q ⟨F,m,ρ,h,R,p⟩;exact i σ H Q F m ρ h R p))
theorem rv(i:Nat){x:Str}{pos:Pos}(hN:X.N[i]? =some x:=by rfl)(hv:Zm X.env.scope x:=by first|exact Or.inl rfl|exact Or.inr (Or.inl rfl)|exact Or.inr (Or.inr rfl))(hd:nD0 x:=by decide)
  (T3:(x==("__classdict__":Str))=false:=by decide):RE X T Ew (.Name x pos) (ae i):=by with_unfolding_all
 refine Ez (Gs hN hv hd T3) fun σ H Q F m ρ h R p=>?_;unfold ae at p
 cases q:ρ[i]? with
 |none=>rw[q]at p;exact p.elim
 |some o=>
  cases o with
  |none=>rw[q]at p;exact p.elim
  |some pv=>rw[q]at p;obtain⟨v,h1,h2⟩:=R.env.2 i pv q;exact⟨v,h1,aG.here p R.toRelH (R.R9 h2)⟩
theorem gG{e:Expr}{v:V}{p:PV}(h:PE X e (tC v))(r:∀F m,aL X.K T F m p v):RE X T Ew e (cK p):=by with_unfolding_all exact(
 Ez h fun σ H Q F m ρ h R q=>aG.here q R.toRelH (r F m))
theorem FV{i:Int}{j pos}:RE X T Ew (.Constant (.int i) j pos) (cK (.int i)):=by with_unfolding_all exact(
  gG GA fun _ _=>.int i)
theorem Iy{b:Bool}{j pos}:RE X T Ew (.Constant (.bool b) j pos) (cK (.bl b)):=by with_unfolding_all exact(
  gG IU fun _ _=>.bl b)
theorem FO{j pos}:RE X T Ew (.Constant .none j pos) (cK .non):=by with_unfolding_all exact(
  gG Gz fun _ _=>.non)
theorem FJ{x:Str}(l:List Nat){j pos}(e:x=S l:=by rfl):RE X T Ew (.Constant (.str x) j pos) (cK (.str l)):=by with_unfolding_all exact(
  gG Gv fun _ _=>by rw[e];exact .str l)
def EY(K:W.Frag)(T:Tab)(r:V→Hp→VK→Prop)(g:PV→List PO→Res PV):Prop:=
 ∀F m h H x p Q Ew,RelH K T F m h H→aL K T F m p x→aG K T (aL K T) F m H Q Ew (g p h)→r x H Q
def eZ(K:W.Frag)(T:Tab)(r:R2)(g:PV→PV→List PO→Res PV):Prop:=
 ∀F m h H x y p q Q Ew,RelH K T F m h H→aL K T F m p x→aL K T F m q y→aG K T (aL K T) F m H Q Ew (g p q h)→r x y H Q
def qz(K:W.Frag)(T:Tab)(r:List V→Hp→VK→Prop)(g:List PV→List PO→Res PV):Prop:=
 ∀F m h H xs ps Q Ew,RelH K T F m h H→aq K T F m ps xs→aG K T (aL K T) F m H Q Ew (g ps h)→r xs H Q
theorem gZ.of{K:W.Frag}{F F1 H H1:Hp}{m m1:List Addr}{ρ:Ev}{h h1:List PO}{σ:St}(R:gZ K T F m ρ h σ H)(s:bf F m H F1 m1 H1)(R1:RelH K T F1 m1 h1 H1):gZ K T F1 m1 ρ h1 σ H1:=⟨R1,s.env R.env⟩
theorem w1{r:V→Hp→VK→Prop}{g:PV→List PO→Res PV}{fa:Ex}(P:EY X.K T r g){σ:St}{H:Hp}{Q:VK}(w:wE X T Ew (c1 g fa) σ H Q):ZP r (wE X T Ew fa) σ H Q:=by obtain⟨F,m,ρ,h,R,p⟩:=w;exact⟨F,m,ρ,h,R,(aG.bind p).mono (by rintro x H1 ⟨F1,m1,h1,a,s,R1,ra,p1⟩;exact P F1 m1 h1 H1 x a Q Ew R1 ra p1)⟩
theorem w2{r:R2}{g:PV→PV→List PO→Res PV}{fa fb:Ex}(P:eZ X.K T r g){σ:St}{H:Hp}{Q:VK}(w:wE X T Ew (c2 g fa fb) σ H Q):Wh r (wE X T Ew fa) (wE X T Ew fb) σ H Q:=by obtain⟨F,m,ρ,h,R,p⟩:=w;refine⟨F,m,ρ,h,R,(aG.bind p).mono ?_⟩;rintro x H1 ⟨F1,m1,h1,a,s,R1,ra,p1⟩;refine⟨F1,m1,ρ,h1,R.of s R1,(aG.bind p1).mono ?_⟩;rintro y H2 ⟨F2,m2,h2,b,s2,R2,rb,p2⟩;exact P F2 m2 h2 H2 x y a b Q Ew R2 (s2.rep ra) rb p2
theorem wN{r:List V→Hp→VK→Prop}{g:List PV→List PO→Res PV}{fa:Ax}(P:qz X.K T r g){σ:St}{H:Hp}{Q:VK}(w:wE X T Ew (cN g fa) σ H Q):Yl r (wA X T Ew fa) σ H Q:=by obtain⟨F,m,ρ,h,R,p⟩:=w;exact⟨F,m,ρ,h,R,(aG.bind p).mono (by rintro x H1 ⟨F1,m1,h1,a,s,R1,ra,p1⟩;exact P F1 m1 h1 H1 x a Q Ew R1 ra p1)⟩
theorem ux:RA X T Ew [] ag:=by with_unfolding_all exact(
  PA.imp GD (by rintro σ H Q ⟨F,m,ρ,h,R,p⟩;exact aG.here p R.toRelH .nil))
theorem mP{e:Expr}{es:List Expr}{f:Ex}{fs:Ax}(ha:RE X T Ew e f)(hr:RA X T Ew es fs)(hs:sE0 X e es:=by rfl):RA X T Ew (e::es) (aa f fs):=by with_unfolding_all
 refine PA.imp (Di ha hr hs) ?_;rintro σ H Q ⟨F,m,ρ,h,R,p⟩;refine⟨F,m,ρ,h,R,(aG.bind p).mono ?_⟩;rintro x H1 ⟨F1,m1,h1,a,s,R1,ra,p1⟩;refine⟨F1,m1,ρ,h1,R.of s R1,(aG.bind p1).mono ?_⟩;rintro y H2 ⟨F2,m2,h2,b,s2,R2,rb,p2⟩;exact aG.here p2 R2 (.cons (s2.rep ra) rb)
theorem nJ{op:Operator}{r:R2}{g:PV→PV→List PO→Res PV}{a b:Expr}{fa fb:Ex}{pos:Pos}(ho:Ng X (binaryOp op) r)(P:eZ X.K T r g)(ha:RE X T Ew a fa)(hb:RE X T Ew b fb):RE X T Ew (.BinOp a op b pos) (c2 g fa fb):=by with_unfolding_all exact(
 PE.imp (IR ho ha hb) fun σ H Q w=>w2 P w)
theorem Iu{op:UnaryOp}{r:V→Hp→VK→Prop}{g:PV→List PO→Res PV}{a:Expr}{fa:Ex}{pos:Pos}(ho:X7 X (unaryOp op) r)(P:EY X.K T r g)(ha:RE X T Ew a fa):RE X T Ew (.UnaryOp op a pos) (c1 g fa):=by with_unfolding_all exact(
 PE.imp (IP ho ha) fun σ H Q w=>w1 P w)
theorem qL{op:CmpOp}{r:R2}{g:PV→PV→List PO→Res PV}{a b:Expr}{fa fb:Ex}{pos:Pos}(ho:Ng X (compareOp op) r)(P:eZ X.K T r g)(ha:RE X T Ew a fa)(hb:RE X T Ew b fb)(hm:behindInMarks op b=false):RE X T Ew (.Compare a [op] [b] pos) (c2 g fa fb):=by with_unfolding_all exact(
 PE.imp (Dg ho ha hb hm) fun σ H Q w=>w2 P w)
end
noncomputable def RJ(h:List PO):PV→Option (List PV)
 |.lst xs=>some xs
 |.ref i=>match h[i]? with
  |some (.lst xs)=>some xs
  |_=>none
 |_=>none
def Q9(h:List PO):PV→Option (List PV)
 |.Mv xs=>some xs
 |p=>RJ h p
noncomputable def Ru(h:List PO):PV→Option (List (PK×PV))
 |.dct kvs=>some kvs
 |.ref i=>match h[i]? with
  |some (.dct kvs)=>some kvs
  |_=>none
 |_=>none
def Um(h:List PO):PV→Option (List PV)
 |.tup xs=>some xs
 |p=>Q9 h p
section
variable{K:W.Frag}{T:Tab}{F H:Hp}{m:List Addr}{h:List PO}{p:PV}{x:V}{ps:List PV}
theorem iW(R:RelH K T F m h H)(r:aL K T F m p x)(e:RJ h p=some ps):∃a vs,x=.ref a∧H a=some (.lst vs)∧aq K T F m ps vs:=by
 cases r with
 |lst ef rr=>simp only[RJ,Option.some.injEq]at e;subst e;exact⟨_,_,rfl,R.same _ _ ef,rr⟩
 |@ref i a em=>
  have e:(match h[i]? with|some (.lst xs)=>some xs|_=>none)=some ps:=e
  cases q:h[i]? with
  |none=>rw[q]at e;cases e
  |some o=>
   rw[q]at e
   cases o with
   |lst xs=>simp only[Option.some.injEq]at e;subst e;obtain⟨_,vs,e1,rr⟩:=R.obj i _ a q em;exact⟨a,vs,rfl,e1,rr⟩
   |dct _=>cases e
   |o9 _=>cases e
 |_=>simp[RJ]at e
theorem fO(R:RelH K T F m h H)(r:aL K T F m p x)(e:Q9 h p=some ps):∃a vs,x=.ref a∧Mq K H a vs∧aq K T F m ps vs:=by
 by_cases hg:∃xs,p= .Mv xs
 ·obtain⟨xs,rfl⟩:=hg;simp only[Q9,Option.some.injEq]at e;subst e
  cases r with
  |Mv ef rr=>exact⟨_,_,rfl,R.same.seq ef,rr⟩
 ·have e':RJ h p=some ps:=by
   unfold Q9 at e
   split at e
   ·exact absurd ⟨_,rfl⟩ hg
   ·exact e
  obtain⟨a,vs,e1,e2,rr⟩:=iW R r e';exact⟨a,vs,e1,Mq.of e2,rr⟩
theorem fN(R:RelH K T F m h H)(r:aL K T F m (.tup ps) x):∃a vs,x=.ref a∧Nf K H a vs∧aq K T F m ps vs:=by
 cases r with
 |tup ef rr=>exact⟨_,_,rfl,R.same.O9 ef,rr⟩
theorem qG(R:RelH K T F m h H)(r:aL K T F m p x)(e:Um h p=some ps):∃a vs,x=.ref a∧(Mq K H a vs∨Nf K H a vs)∧aq K T F m ps vs:=by
 by_cases hg:∃xs,p=.tup xs
 ·obtain⟨xs,rfl⟩:=hg;simp only[Um,Option.some.injEq]at e;subst e;obtain⟨a,vs,e1,e2,rr⟩:=fN R r;exact⟨a,vs,e1,.inr e2,rr⟩
 ·have e':Q9 h p=some ps:=by
   unfold Um at e
   split at e
   ·exact absurd ⟨_,rfl⟩ hg
   ·exact e
  obtain⟨a,vs,e1,e2,rr⟩:=fO R r e';exact⟨a,vs,e1,.inl e2,rr⟩
theorem ig{kps:List (PK×PV)}(R:RelH K T F m h H)(r:aL K T F m p x)(e:Ru h p=some kps):∃a kvs,x=.ref a∧Rd H a (.dK kvs)∧kvs.map (·.1)=kps.map (fun p=>tk p.1)∧aq K T F m (kps.map (·.2)) (kvs.map (·.2)):=by
 cases r with
 |dct ef k rr=>simp only[Ru,Option.some.injEq]at e;subst e;exact⟨_,_,rfl,.inr ⟨_,R.same _ _ ef⟩,k,rr⟩
 |@ref i a em=>
  have e:(match h[i]? with|some (.dct xs)=>some xs|_=>none)=some kps:=e
  cases q:h[i]? with
  |none=>rw[q]at e;cases e
  |some o=>
   rw[q]at e
   cases o with
   |dct xs=>simp only[Option.some.injEq]at e;subst e;obtain⟨_,vs,e1,k,rr⟩:=R.obj i _ a q em;exact⟨a,vs,rfl,.inl e1,k,rr⟩
   |lst _=>cases e
   |o9 _=>cases e
 |_=>simp[Ru]at e
theorem aq.at{ps:List PV}{vs:List V}{i:Int}{p:PV}(r:aq K T F m ps vs)(e:m_ ps i=some p):∃v,m_ vs i=some v∧aL K T F m p v:=by
 unfold m_ at e ⊢;rw[← r.length]
 cases q:SM ps.length i with
 |none=>rw[q]at e;cases e
 |some j=>rw[q]at e;simp only[Option.bind_some]at e ⊢;exact r.get e
end
theorem Ng.or{X:Cx}{f:Value→Value→Sem Value}{r r':R2}(h:Ng X f r)(h':Ng X f r'):Ng X f (fun x y H Q=>r x y H Q∨r' x y H Q):=by
 intro pins s σ H x y v u Q I rx ry q;rcases q with q|q
 ·exact h pins s σ H x y v u Q I rx ry q
 ·exact h' pins s σ H x y v u Q I rx ry q
theorem cY.or{X:Cx}{f:Value}{r r':List V→Hp→VK→Prop}(h:cY X f r)(h':cY X f r'):cY X f (fun x H Q=>r x H Q∨r' x H Q):=by
 intro pins s σ H x v Q I rx q;rcases q with q|q
 ·exact h pins s σ H x v Q I rx q
 ·exact h' pins s σ H x v Q I rx q
section
variable{K:W.Frag}{T:Tab}{F H:Hp}{m:List Addr}{h:List PO}{Q:VK}{Ew:VK}
theorem aS{p:PV}{x:V}(w:aG K T (aL K T) F m H Q Ew (.ok p h))(R:RelH K T F m h H)(r:aL K T F m p x):Q x H:=w F m H x .refl R r
theorem eR{ps:List PV}{vs:List V}(w:aG K T (aL K T) F m H Q Ew (.ok (.lst ps) h))(R:RelH K T F m h H)(r:aq K T F m ps vs):∀p,H p=none→Q (.ref p) (upd H p (.lst vs)):=fun p hp=>by obtain⟨s,R'⟩:=bf.lay (o:=.lst vs) R hp;exact w _ m _ _ s R' (.lst aK (s.reps r))
theorem kW{ps:List PV}{vs:List V}(w:aG K T (aL K T) F m H Q Ew (.ok (.tup ps) h))(R:RelH K T F m h H)(r:aq K T F m ps vs):∀p,H p=none→Q (.ref p) (upd H p (.tup vs)):=fun p hp=>by obtain⟨s,R'⟩:=bf.lay (o:=.tup vs) R hp;exact w _ m _ _ s R' (.tup (Nf.of aK) (s.reps r))
theorem kX{ps:List PV}{vs:List V}(w:aG K T (aL K T) F m H Q Ew (.ok (.ref h.length) (h++ [.lst ps])))(R:RelH K T F m h H)(r:aq K T F m ps vs):∀p,H p=none→Q (.ref p) (upd H p (.lst vs)):=fun p hp=>by
 have hF:F p=none:=R.same.free hp
 have hm:p∉m:=fun z=>by
  obtain⟨i,e⟩:=List.mem_iff_getElem?.mp z
  have hi:i<h.length:=by
   rw[R.len];rcases Nat.lt_or_ge i m.length with q|q
   ·exact q
   ·rw[List.getElem?_eq_none q]at e;cases e
  have e2:h[i]? =some h[i]:=List.getElem?_eq_getElem hi;have q:=R.obj i _ p e2 e
  cases ho:h[i]with
  |lst xs=>rw[ho]at q;obtain⟨_,vs,z,_⟩:=q;rw[hp]at z;cases z
  |dct xs=>rw[ho]at q;obtain⟨_,vs,z,_⟩:=q;rw[hp]at z;cases z
  |o9 xs=>rw[ho]at q;obtain⟨_,_,o,z⟩:=q;rw[hF]at z;cases z
 have st:bf F m H F (m++ [p]) (upd H p (.lst vs)):=by
  refine⟨cy.refl _,⟨[p],rfl⟩,fun b o e _=>by rw[aj (aE e hp)];exact e,fun b o e=>⟨o,by rw[aj (aE e hp)];exact e⟩,fun i a hi e=>?_,fun a o e=>.inl e⟩;rw[List.getElem?_append_right hi]at e
  have:a=p:=by
   cases q:i - m.length with
   |zero=>rw[q]at e;simpa using e.symm
   |succ k=>rw[q]at e;simp at e
  rw[this];exact hp
 refine w F (m++ [p]) _ _ st ⟨fun b o e=>by rw[aj (aE (R.same b o e) hp)];exact R.same b o e,by simp[R.len],fun i o a e1 e2=>?_,?_⟩ (.ref (by rw[R.len];simp))
 ·rcases Nat.lt_or_ge i h.length with hi|hi
  ·rw[List.getElem?_append_left hi]at e1;rw[List.getElem?_append_left (by rw[← R.len];exact hi)]at e2;have q:=R.obj i o a e1 e2
   cases o with
   |lst xs=>obtain⟨f,ws,z,rr⟩:=q;exact⟨f,ws,by rw[aj (aE z hp)];exact z,st.reps rr⟩
   |dct xs=>obtain⟨f,ws,z,k,rr⟩:=q;exact⟨f,ws,by rw[aj (aE z hp)];exact z,k,st.reps rr⟩
   |o9 q'=>obtain⟨r1,r2,r3⟩:=q;exact⟨st.rep r1,r2,r3⟩
  ·have R6:i=h.length:=by
    rcases Nat.lt_or_ge i (h.length+1)with z|z
    ·omega
    ·rw[List.getElem?_eq_none (by simp;omega)]at e1;cases e1
   subst R6;have e1':o=.lst ps:=by simpa using e1.symm
   subst e1';have e2':a=p:=by rw[R.len]at e2;simpa using e2.symm
   subst e2';exact⟨hF,vs,aK,st.reps r⟩
 ·refine List.nodup_append.mpr ⟨R.nd,by simp,fun a ha b hb=>?_⟩;have:b=p:=by simpa using hb
  subst this
  rintro rfl
  exact hm ha
end
def aT(p q:PV)(h:List PO):Res PV:=match p,q with
 |.int i,.int j=>.ok (.int (i+j)) h
 |.int i,.bl b=>.ok (.int (i+b2i b)) h
 |.str a,.str b=>if a.length+b.length≤sizeLine then .ok (.str (a++b)) h else .bad
 |.tup a,.tup b=>if a.isEmpty=false∧a.length+b.length≤sizeLine then .ok (.tup (a++b)) h else .bad
 |p,q=>match RJ h p,RJ h q with
  |some a,some b=>if a.length+b.length≤sizeLine then .ok (.lst (a++b)) h else .bad
  |_,_=>.bad
def wq(K:W.Frag):R2:=fun x y H Q=>(Uq fun i j=>V.int (i+j)) x y H Q∨(∃i k,x=.int i∧y=.bl k∧Q (.int (i+b2i k)) H)∨
 (∃i j,x=.str i∧y=.str j∧i.length+j.length≤sizeLine∧Q (.str (i++j)) H)∨ED K x y H Q∨IK x y H Q
theorem qQ{X:Cx}:Ng X (binaryOp .Add) (wq X.K):=Ng.or GP (Ng.or yk (Ng.or uP (Ng.or Do GO)))
theorem oQ(a b:List Nat):S a++S b=S (a++b):=by show(⟨(S a).cps++(S b).cps⟩:Str)=_;simp[S]
theorem sI{K:W.Frag}{T:Tab}:eZ K T (wq K) aT:=by
 intro F m h H x y p q Q Ew R rp rq w;unfold aT at w
 split at w
 ·cases rp;cases rq;exact .inl ⟨_,_,rfl,rfl,aS w R (.int _)⟩
 ·cases rp;cases rq;exact .inr (.inl ⟨_,_,rfl,rfl,aS w R (.int _)⟩)
 ·rename_i a b
  cases rp;cases rq
  split at w
  ·rename_i hz;exact .inr (.inr (.inl ⟨_,_,rfl,rfl,by rw[fj,fj];exact hz,by rw[oQ];exact aS w R (.str _)⟩))
  ·exact w.elim
 ·rename_i a b
  split at w
  ·rename_i hz;obtain⟨pa,va,rfl,ea,ra⟩:=fN R rp;obtain⟨pb,vb,rfl,eb,rb⟩:=fN R rq;refine .inr (.inr (.inr (.inl ⟨pa,pb,va,vb,rfl,rfl,ea,eb,fun z=>?_,by rw[← ra.length,← rb.length];exact hz.2,fun z=>?_,fun _=>kW w R (ra.append rb)⟩)))
   ·subst z;have:=ra.length
    cases a with
    |nil=>simp at hz
    |cons _ _=>simp at this
   ·subst z;have:=rb.length
    cases b with
    |nil=>rw[List.append_nil]at w;exact aS w R rp
    |cons _ _=>simp at this
  ·exact w.elim
 ·split at w
  ·rename_i a b e1 e2
   split at w
   ·rename_i hz;obtain⟨pa,va,rfl,ea,ra⟩:=iW R rp e1;obtain⟨pb,vb,rfl,eb,rb⟩:=iW R rq e2;exact .inr (.inr (.inr (.inr ⟨pa,pb,va,vb,rfl,rfl,ea,eb,by rw[← ra.length,← rb.length];exact hz,eR w R (ra.append rb)⟩)))
   ·exact w.elim
  ·exact w.elim
theorem Ga{X:Cx}{T:Tab}{Ew:VK}{a b:Expr}{fa fb:Ex}{pos:Pos}(ha:RE X T Ew a fa)(hb:RE X T Ew b fb):RE X T Ew (.BinOp a .Add b pos) (c2 aT fa fb):=by with_unfolding_all exact(
  nJ qQ sI ha hb)
noncomputable def pI(C:Int→Int→Bool)(g:Int→Int→Int)(p q:PV)(h:List PO):Res PV:=match p,q with
 |.int i,.int j=>if C i j=true then .ok (.int (g i j)) h else .bad
 |_,_=>.bad
theorem Aj{K:W.Frag}{T:Tab}{C:Int→Int→Bool}{C':Int→Int→Prop}{g:Int→Int→Int}(hC:∀i j,C i j=true→C' i j):eZ K T (rI C' fun i j=>.int (g i j)) (pI C g):=by
 intro F m h H x y p q Q Ew R rp rq w;unfold pI at w
 split at w
 ·cases rp;cases rq
  split at w
  ·rename_i hc;exact⟨_,_,rfl,rfl,hC _ _ hc,aS w R (.int _)⟩
  ·exact w.elim
 ·exact w.elim
noncomputable def sK(p q:PV)(h:List PO):Res PV:=match p,q with
 |.int i,.int j=>.ok (.int (i - j)) h
 |_,_=>.bad
theorem Ae{K:W.Frag}{T:Tab}:eZ K T (Uq fun i j=>.int (i - j)) sK:=by
 intro F m h H x y p q Q Ew R rp rq w;unfold sK at w
 split at w
 ·cases rp;cases rq;exact⟨_,_,rfl,rfl,aS w R (.int _)⟩
 ·exact w.elim
abbrev aU:=pI (fun _ j=>decide (0<j)) (fun i j=>i % j)
abbrev bA:=pI (fun _ j=>decide (0<j∧j<1073741824)) (fun i j=>i / j)
noncomputable def Rv(n:Nat)(i:Int):Bool:=Nat.blt i.natAbs n
theorem du{n:Nat}{i:Int}:Rv n i=true↔ -(n:Int)<i∧i<(n:Int):=by unfold Rv;rw[Nat.blt_eq];omega
def je(i j:Int):Bool:=Rv 18446744073709551616 i||Rv 18446744073709551616 j
noncomputable def Cu{α:Type}(xs:List α)(k:Int):List α:=(List.replicate k.toNat xs).flatten
def jx(p q:PV)(h:List PO):Res PV:=match p,q with
 |.int i,.int j=>if je i j=true then .ok (.int (i * j)) h else .bad
 |.str a,.int k=>if Rv 1048576 k=true∧a.length * k.toNat≤1048576 then .ok (.str (Cu a k)) h else .bad
 |p,.int k=>match RJ h p with
  |some xs=>if Rv 9223372036854775808 k=true∧xs.length * k.toNat≤sizeLine then .ok (.lst (Cu xs k)) h else .bad
  |_=>.bad
 |_,_=>.bad
def EB:R2:=fun x y H Q=>rI Ep (fun i j=>.int (i * j)) x y H Q∨EA x y H Q∨IF x y H Q
theorem Dm{X:Cx}:Ng X (binaryOp .Mult) EB:=Ng.or GI (Ng.or uN GG)
theorem qg(l:List Nat):∀(k:Nat)(acc:List Nat),(List.replicate k l.toArray).foldl (· ++ ·) acc.toArray=(acc++(List.replicate k l).flatten).toArray
 |0,acc=>by simp
 |k+1,acc=>by
  rw[List.replicate_succ,List.foldl_cons,List.replicate_succ,List.flatten_cons,← List.append_assoc,← qg l k (acc++l)]
  congr 1
  simp
theorem JO(a:List Nat)(k:Int):Txt.mul (S a) k=S (Cu a k):=by
 unfold Txt.mul Cu
 by_cases h1:k<1
 ·rw[if_pos h1];have:k.toNat=0:=by omega
  rw[this];rfl
 ·rw[if_neg h1]
  by_cases h2:k=1
  ·subst h2;simp
  ·by_cases h3:(S a).length=0
   ·rw[if_pos (by simp[h3])];have:a= []:=by rw[fj]at h3;exact List.length_eq_zero_iff.mp h3
    subst this
    have e:∀n:Nat,(List.replicate n ([]:List Nat)).flatten= []:=fun n=>by induction n with
     |zero=>rfl
     |succ n ih=>rw[List.replicate_succ,List.flatten_cons,ih];rfl
    rw[e]
   ·rw[if_neg (by simp[h2,h3])];have:=qg a k.toNat [];rw[List.nil_append]at this;show(⟨_⟩:Str)=⟨_⟩
    congr 1
theorem Ag{K:W.Frag}{T:Tab}:eZ K T EB jx:=by
 intro F m h H x y p q Q Ew R rp rq w;unfold jx at w
 split at w
 ·cases rp;cases rq
  split at w
  ·rename_i hc
   exact .inl ⟨_,_,rfl,rfl,(by unfold je at hc;rw[Bool.or_eq_true,du,du]at hc;exact hc),aS w R (.int _)⟩
  ·exact w.elim
 ·rename_i a k
  cases rp;cases rq
  split at w
  ·rename_i hc;obtain⟨Q0,h3⟩:=hc;obtain⟨h1,h2⟩:=du.mp Q0;refine .inr (.inl ⟨_,_,rfl,rfl,⟨?_,fun g1 g2=>?_,fun g1 g2=>?_⟩,by rw[JO];exact aS w R (.str _)⟩)
   ·simp;omega
   ·have hl:((S a).length:Int)≤2 ^ 20:=by rw[fj];have:a.length * 1≤a.length * k.toNat:=Nat.mul_le_mul_left _ (by omega);omega
    have:(2:Int) ^ 20≤(2 ^ 63 - 1) / k:=by rw[Int.le_ediv_iff_mul_le (by omega)];have:(2:Int) ^ 20 * k≤2 ^ 20 * 2 ^ 20:=Int.mul_le_mul_of_nonneg_left (by omega) (by decide);omega
    omega
   ·rw[fj];unfold Builtin.Str.tooLong;simp;have:(2:Nat) ^ 20≤sizeLine:=by decide
    omega
  ·exact w.elim
 ·rename_i k hs hi
  cases rq
  split at w
  ·rename_i xs e
   split at w
   ·rename_i hc;obtain⟨Q0,h3⟩:=hc;obtain⟨S6,Tv⟩:=du.mp Q0;have h1: -(2 ^ 63)≤k:=by omega
    have h2:k<2 ^ 63:=by omega
    obtain⟨a,vs,rfl,ea,ra⟩:=iW R rp e
    have rr:∀n:Nat,aq K T F m (List.replicate n xs).flatten (List.replicate n vs).flatten:=fun n=>by
     induction n with
     |zero=>exact .nil
     |succ n ih=>rw[List.replicate_succ,List.replicate_succ,List.flatten_cons,List.flatten_cons];exact ra.append ih
    exact .inr (.inr ⟨a,k,vs,rfl,rfl,ea,h1,h2,by rw[← ra.length];exact h3,eR w R (rr _)⟩)
   ·exact w.elim
  ·exact w.elim
 ·exact w.elim
section
variable{X:Cx}{T:Tab}{Ew:VK}{a b:Expr}{fa fb:Ex}{pos:Pos}
theorem FI(ha:RE X T Ew a fa)(hb:RE X T Ew b fb):RE X T Ew (.BinOp a .Sub b pos) (c2 sK fa fb):=by with_unfolding_all exact(
  nJ GF Ae ha hb)
theorem FQ(ha:RE X T Ew a fa)(hb:RE X T Ew b fb):RE X T Ew (.BinOp a .Mult b pos) (c2 jx fa fb):=by with_unfolding_all exact(
  nJ Dm Ag ha hb)
theorem FR(ha:RE X T Ew a fa)(hb:RE X T Ew b fb):RE X T Ew (.BinOp a .Mod b pos) (c2 aU fa fb):=by with_unfolding_all exact(
  nJ GJ (Aj fun i j h=>of_decide_eq_true h) ha hb)
theorem CD(ha:RE X T Ew a fa)(hb:RE X T Ew b fb):RE X T Ew (.BinOp a .FloorDiv b pos) (c2 bA fa fb):=by with_unfolding_all exact(
  nJ Dn (Aj fun i j h=>(by have z:=of_decide_eq_true h;exact z)) ha hb)
noncomputable def yi(p:PV)(h:List PO):Res PV:=match p with
 |.int i=>.ok (.int (-i)) h
 |_=>.bad
theorem FP(ha:RE X T Ew a fa):RE X T Ew (.UnaryOp .USub a pos) (c1 yi fa):=by with_unfolding_all exact(
  Iu Fc (by
 intro F m h H x p Q Ew R rp w;unfold yi at w
 split at w
 ·cases rp;exact⟨_,rfl,aS w R (.int _)⟩
 ·exact w.elim) ha)
end
mutual
inductive Sh(K:W.Frag)(H:Hp):V→PyData→Prop where
 |non:Sh K H .non .none
 |bl (b:Bool):Sh K H (.bl b) (.bool b)
 |int (i:Int):Sh K H (.int i) (.int i)
 |str (x:Str):Sh K H (.str x) (.str x)
 |lst {a:Addr} {vs:List V} {ds:List PyData} (e:Mq K H a vs) (r:mD K H vs ds):Sh K H (.ref a) (.list ds)
 |tup {a:Addr} {vs:List V} {ds:List PyData} (e:Nf K H a vs) (r:mD K H vs ds):Sh K H (.ref a) (.tuple ds)
inductive mD(K:W.Frag)(H:Hp):List V→List PyData→Prop where
 |nil:mD K H [] []
 |cons {v:V} {d:PyData} {vs:List V} {ds:List PyData} (r:Sh K H v d) (t:mD K H vs ds):mD K H (v::vs) (d::ds)
end
section
variable{X:Cx}{pins:List (Addr×Obj)}{σ:St}{H:Hp}{s:Shared}
mutual
theorem Sh.reads(I:Inv X pins σ H s):∀{x:V}{d:PyData}{u:Value},Sh X.K H x d→aX x u→∃as,Reads s.heap u d as:=by
 intro x d u q r;cases q with
 |non=>cases r;exact⟨_,.none⟩
 |bl b=>cases r;exact⟨_,.bool b⟩
 |int i=>obtain⟨t,rfl⟩:=r;exact⟨_,.int i t⟩
 |str x=>obtain⟨t,rfl⟩:=r;exact⟨_,.str x t⟩
 |lst e rr=>
  cases r
  obtain⟨its,rv,⟨o,n,h1,h2,h3,h4⟩,_⟩:=I.list e;obtain⟨as,ra⟩:=mD.reads I rr rv;exact⟨_,.list h1 h2 h4 (by simpa using ra)⟩
 |tup e rr=>
  cases r
  obtain⟨its,rv,⟨o,h1,h2,n,h4⟩,_⟩:=I.tuple e;obtain⟨as,ra⟩:=mD.reads I rr rv;exact⟨_,.tuple h1 h2 h4 (by simpa using ra)⟩
theorem mD.reads(I:Inv X pins σ H s):∀{xs:List V}{ds:List PyData}{us:List Value},mD X.K H xs ds→aR xs us→∃as,ReadsAll s.heap us ds as:=by
 intro xs ds us g r;cases g with
 |nil=>cases r;exact⟨_,.nil⟩
 |cons q t=>
  cases r with
  |cons r1 r2=>obtain⟨as,ra⟩:=Sh.reads I q r1;obtain⟨bs,rb⟩:=mD.reads I t r2;exact⟨_,.cons ra rb⟩
end
end
mutual
def toD:PV→PyData
 |.non=>.none
 |.bl b=>.bool b
 |.int i=>.int i
 |.str l=>.str (S l)
 |.tup xs=>.tuple (fU xs)
 |.lst xs=>.list (fU xs)
 |.Mv xs=>.list (fU xs)
 |_=>.dict []
def fU:List PV→List PyData
 |[]=>[]
 |x::r=>toD x::fU r
end
theorem nj:∀l:List PV,fU l=l.map toD
 |[]=>by simp[fU]
 |x::r=>by simp[fU,nj r]
def Qx(h:List PO):PV→PyData
 |.ref i=>match h[i]? with
  |some (.lst xs)=>.list (fU xs)
  |_=>.dict []
 |p=>toD p
section
variable{K:W.Frag}{T:Tab}{F H:Hp}{m:List Addr}
theorem aL.rd(sm:cy F H){p:PV}{x:V}(q:aL K T F m p x):(toD p).canLay0=true→Sh K H x (toD p):=by
 refine aL.rec (motive_1:=fun p x _=>(toD p).canLay0=true→Sh K H x (toD p)) (motive_2:=fun p x _=>PyData.canLayAll0 (fU p)=true→mD K H x (fU p)) ?_ ?_ ?_ ?_ ?_ ?_ ?t ?l ?M ?_ ?_ ?_ ?_ ?_ ?c q
 case t=>intro _ _ _ e _ r h;rw[toD]at h ⊢;rw[PyData.canLay0]at h;exact .tup (sm.O9 e) (r h)
 case l=>intro _ _ _ e _ r h;rw[toD]at h ⊢;rw[PyData.canLay0]at h;exact .lst (Mq.of (sm _ _ e)) (r h)
 case M=>intro _ _ _ e _ r h;rw[toD]at h ⊢;rw[PyData.canLay0]at h;exact .lst (sm.seq e) (r h)
 case c=>intro _ _ _ _ _ _ r t h;simp only[fU,PyData.canLayAll0,Bool.and_eq_true]at h ⊢;exact .cons (r h.1) (t h.2)
 all_goals intros;first|(rename_i h;simp[toD,PyData.canLay0]at h;done)|(first|rw[toD]|rw[fU]);constructor
theorem aq.rd(sm:cy F H):∀{p:List PV}{x:List V},aq K T F m p x→PyData.canLayAll0 (fU p)=true→mD K H x (fU p)
 |_,_,.nil,_=>by rw[fU];exact .nil
 |_,_,.cons r t,h=>by simp only[fU,PyData.canLayAll0,Bool.and_eq_true]at h ⊢;exact .cons (r.rd sm h.1) (aq.rd sm t h.2)
theorem aL.Xq{h:List PO}(R:RelH K T F m h H){p:PV}{x:V}(r:aL K T F m p x)(c:(Qx h p).canLay0=true):Sh K H x (Qx h p):=by
 by_cases hr:∃i,p=.ref i
 ·obtain⟨i,rfl⟩:=hr
  cases r with
  |@ref _ a e=>
   have c':(match h[i]? with|some (.lst xs)=>PyData.list (fU xs)|_=>.dict []).canLay0=true:=c;show Sh K H (.ref a) (match h[i]? with|some (.lst xs)=>PyData.list (fU xs)|_=>.dict [])
   cases q:h[i]? with
   |none=>rw[q]at c';simp[PyData.canLay0]at c'
   |some o=>
    rw[q]at c'
    cases o with
    |lst xs=>obtain⟨_,vs,e1,rr⟩:=R.obj i _ a q e;exact .lst (Mq.of e1) (aq.rd R.same rr (by simpa[PyData.canLay0]using c'))
    |dct _=>simp[PyData.canLay0]at c'
    |o9 _=>simp[PyData.canLay0]at c'
 ·have e:Qx h p=toD p:=by
   unfold Qx
   split
   ·exact absurd ⟨_,rfl⟩ hr
   ·rfl
  rw[e]at c ⊢;exact aL.rd R.same r c
end
def Qp(h:List PO)(p:PV):Bool:=(Qx h p).canLay0&&decide ((Qx h p).depth≤60)
def m9(p q:PV)(h:List PO):Res PV:=if Qp h p=true∧Qp h q=true then .ok (.bl (PyData.eqv (Qx h p) (Qx h q))) h else .bad
def Qv(p q:PV)(h:List PO):Res PV:=if Qp h p=true∧Qp h q=true then .ok (.bl (!PyData.eqv (Qx h p) (Qx h q))) h else .bad
noncomputable def zW(K:W.Frag)(neg:Bool):R2:=fun x y H Q=>∃d e,Sh K H x d∧Sh K H y e∧d.canLay0=true∧e.canLay0=true∧d.depth≤60∧Q (.bl (if neg then !PyData.eqv d e else PyData.eqv d e)) H
section
variable{X:Cx}{T:Tab}{Ew:VK}{a b:Expr}{fa fb:Ex}{pos:Pos}
theorem uO(hu:X.A.units+64<cLine):Ng X (compareOp .Eq) (zW X.K false):=by intro pins s σ H x y v u Q I rx ry h;obtain⟨d,e,h1,h2,c1,c2,dp,q⟩:=h;obtain⟨as,ra⟩:=h1.reads I rx;obtain⟨bs,rb⟩:=h2.reads I ry;exact SeqAt.compareEq_reads ra rb c1 c2 (by have:=Nat.min_le_left d.depth e.depth;omega) ⟨.bl _,H,I,rfl,q⟩
theorem GH(hu:X.A.units+64<cLine):Ng X (compareOp .NotEq) (zW X.K true):=by intro pins s σ H x y v u Q I rx ry h;obtain⟨d,e,h1,h2,c1,c2,dp,q⟩:=h;obtain⟨as,ra⟩:=h1.reads I rx;obtain⟨bs,rb⟩:=h2.reads I ry;exact SeqAt.compareNe_reads ra rb c1 c2 (by have:=Nat.min_le_left d.depth e.depth;omega) ⟨.bl _,H,I,rfl,q⟩
theorem qM{K:W.Frag}{T:Tab}:eZ K T (zW K false) m9:=by
 intro F m h H x y p q Q Ew R rp rq w;unfold m9 at w
 split at w
 ·rename_i hc;unfold Qp at hc;simp only[Bool.and_eq_true,decide_eq_true_eq]at hc;exact⟨_,_,rp.Xq R hc.1.1,rq.Xq R hc.2.1,hc.1.1,hc.2.1,hc.1.2,aS w R (.bl _)⟩
 ·exact w.elim
theorem CS{K:W.Frag}{T:Tab}:eZ K T (zW K true) Qv:=by
 intro F m h H x y p q Q Ew R rp rq w;unfold Qv at w
 split at w
 ·rename_i hc;unfold Qp at hc;simp only[Bool.and_eq_true,decide_eq_true_eq]at hc;exact⟨_,_,rp.Xq R hc.1.1,rq.Xq R hc.2.1,hc.1.1,hc.2.1,hc.1.2,aS w R (.bl _)⟩
 ·exact w.elim
noncomputable def AF(g:Int→Int→Bool)(p q:PV)(h:List PO):Res PV:=match p,q with
 |.int i,.int j=>.ok (.bl (g i j)) h
 |_,_=>.bad
theorem kU{K:W.Frag}{T:Tab}{g:Int→Int→Bool}:eZ K T (Uq fun i j=>.bl (g i j)) (AF g):=by
 intro F m h H x y p q Q Ew R rp rq w;unfold AF at w
 split at w
 ·cases rp;cases rq;exact⟨_,_,rfl,rfl,aS w R (.bl _)⟩
 ·exact w.elim
abbrev Wq:=AF fun i j=>decide (i<j)
abbrev U5:=AF fun i j=>decide (j<i)
noncomputable def fh:PV→Bool
 |.non=>true
 |_=>false
theorem qc{K:W.Frag}{T:Tab}{F:Hp}{m:List Addr}{p:PV}{x:V}(r:aL K T F m p x):decide (x=.non)=fh p:=by cases r<;>simp[fh]
def Vm(p q:PV)(h:List PO):Res PV:=match q with
 |.non=>.ok (.bl (fh p)) h
 |_=>.bad
def dE(p q:PV)(h:List PO):Res PV:=match q with
 |.non=>.ok (.bl (!fh p)) h
 |_=>.bad
end
noncomputable def cD(y x:List Nat)(lo:Nat):Option Nat:=(List.range (x.length+1)).find? fun i=>decide (lo≤i)&&y.isPrefixOf (x.drop i)
theorem pz(x y:List Nat)(i:Nat)(hi:i+y.length≤x.length):Builtin.Str.subAt (S x) (S y) i=y.isPrefixOf (x.drop i):=by
 unfold Builtin.Str.subAt;rw[fj];rw[Bool.eq_iff_iff,beq_iff_eq,List.isPrefixOf_iff_prefix]
 have e:(S x).cps.extract i (i+y.length)=((x.drop i).take y.length).toArray:=by apply Array.toList_inj.mp;simp[S,List.extract_eq_drop_take]
 rw[e];show((x.drop i).take y.length).toArray=(S y).cps↔_;constructor
 ·intro h;have h':(x.drop i).take y.length=y:=by simpa[S]using congrArg Array.toList h
  refine⟨(x.drop i).drop y.length,?_⟩;have q:=List.take_append_drop y.length (x.drop i);rw[h']at q;exact q
 ·rintro⟨t,ht⟩
  rw[← ht,List.take_left];rfl
theorem vM(x y:List Nat)(i:Nat):StrLaws.At (S x) (S y) (S x).length i↔i≤x.length∧y.isPrefixOf (x.drop i)=true:=by
 unfold StrLaws.At;rw[fj,fj];constructor
 ·rintro⟨h1,h2⟩
  rw[pz x y i h1]at h2;exact⟨by omega,h2⟩
 ·rintro⟨h1,h2⟩
  have:i+y.length≤x.length:=by have:=(List.isPrefixOf_iff_prefix.mp h2).length_le;rw[List.length_drop]at this;omega
  exact⟨this,by rw[pz x y i this];exact h2⟩
theorem nS(x y:List Nat)(lo:Nat):Builtin.Str.occurrences (S x) (S y) lo (S x).length 1=(cD y x lo).toList:=by
 have E_:=StrLaws.occ_length_le (S x) (S y) lo (S x).length 1;rcases StrLaws.occ_head_from (S x) (S y) lo 1 (Nat.le_refl _)with⟨h0,hn⟩|⟨i,r,h0,hl,ha,hn⟩
 ·rw[h0]
  have:cD y x lo=none:=by unfold cD;rw[List.find?_eq_none];intro i hi hc;simp only[Bool.and_eq_true,decide_eq_true_eq]at hc;exact hn i hc.1 ((vM x y i).mpr ⟨by have:=List.mem_range.mp hi;omega,hc.2⟩)
  rw[this];rfl
 ·rw[h0]at E_ ⊢
  have hr:r= []:=by cases r with
   |nil=>rfl
   |cons _ _=>simp at E_
  subst hr;obtain⟨a1,a2⟩:=(vM x y i).mp ha
  have:cD y x lo=some i:=by
   unfold cD;rw[List.find?_range_eq_some];refine⟨by simp[hl,a2],by simp;omega,fun j hj=>?_⟩;simp only[Bool.not_eq_true',Bool.and_eq_false_iff,decide_eq_false_iff_not];rcases Nat.lt_or_ge j lo with q|q
   ·exact .inl (by omega)
   ·right
    cases z:y.isPrefixOf (x.drop j)with
    |false=>rfl
    |true=>exact absurd ((vM x y j).mpr ⟨by omega,z⟩) (hn j q hj)
  rw[this];rfl
def eT(y x:List Nat):Bool:=(cD y x 0).isSome
noncomputable def ES(o:Option Nat):Int:=match o with
 |some i=>(i:Int)
 |none=> -1
theorem HE(x y:List Nat):Txt.find (S x) (S y)=ES (cD y x 0):=by
 unfold Txt.find;rw[nS]
 cases cD y x 0<;>rfl
theorem LJ(x y:List Nat):(!(Builtin.Str.occurrences (S x) (S y) 0 (S x).length 1).isEmpty)=eT y x:=by
 rw[nS];unfold eT
 cases cD y x 0<;>rfl
theorem eI(c:Nat)(x:List Nat):eT [c] x=x.contains c:=by
 unfold eT cD;rw[Bool.eq_iff_iff,List.find?_isSome];simp only[List.mem_range,Bool.and_eq_true,decide_eq_true_eq,Nat.zero_le,true_and,List.contains_iff_mem];constructor
 ·rintro⟨i,hi,hp⟩
  obtain⟨t,ht⟩:=List.isPrefixOf_iff_prefix.mp hp;have:c∈x.drop i:=by rw[← ht];simp
  exact List.mem_of_mem_drop this
 ·intro h;obtain⟨i,hi⟩:=List.mem_iff_getElem?.mp h
  have QZ:i<x.length:=by
   rcases Nat.lt_or_ge i x.length with q|q
   ·exact q
   ·rw[List.getElem?_eq_none q]at hi;cases hi
  refine⟨i,by omega,List.isPrefixOf_iff_prefix.mpr ⟨x.drop (i+1),?_⟩⟩;rw[List.getElem?_eq_getElem QZ,Option.some.injEq]at hi;rw[← hi,List.singleton_append,← List.drop_eq_getElem_cons QZ]
noncomputable def eS:PV→Option PK
 |.int i=>some (.inl i)
 |.str l=>some (.inr l)
 |_=>none
noncomputable def jk(kvs:List (PK×PV))(k:PK):Option PV:=(kvs.find? fun kv=>decide (kv.1=k)).map (·.2)
theorem fI{K:W.Frag}{T:Tab}{F:Hp}{m:List Addr}{p:PV}{x:V}{k:PK}(r:aL K T F m p x)(e:eS p=some k):x=kV (tk k):=by cases r<;>simp[eS]at e<;>subst e<;>rfl
theorem iz{K:W.Frag}{T:Tab}{F:Hp}{m:List Addr}:∀{kps:List (PK×PV)}{kvs:List (Key×V)},kvs.map (·.1)=kps.map (fun p=>tk p.1)→aq K T F m (kps.map (·.2)) (kvs.map (·.2))→∀k:PK,
  (∃p v,jk kps k=some p∧iP kvs (tk k)=some v∧aL K T F m p v)∨(jk kps k=none∧iP kvs (tk k)=none)
 |[],[],_,_,k=>.inr ⟨rfl,rfl⟩
 |[],_::_,h,_,_=>by simp at h
 |_::_,[],h,_,_=>by simp at h
 |(k1,p1)::kps,(k2,v2)::kvs,h,r,k=>by
  simp only[List.map_cons,List.cons.injEq]at h
  cases r with
  |cons r1 r2=>
   by_cases e:k1=k
   ·subst e;exact .inl ⟨p1,v2,by simp[jk],by rw[kH (p:=(k2,v2)) h.1],r1⟩
   ·have e2:¬ k2=tk k:=fun z=>e (qD (h.1.symm.trans z));rw[kI (p:=(k2,v2)) e2];have:jk ((k1,p1)::kps) k=jk kps k:=by simp[jk,e]
    rw[this];exact iz h.2 r2 k
def Dj(p q:PV)(h:List PO):Option Bool:=match q with
 |.str b=>match p with
  |.str a=>some (eT a b)
  |_=>none
 |q=>match Ru h q with
  |some kvs=>match eS p with
   |some k=>some (jk kvs k).isSome
   |none=>none
  |none=>match Um h q with
   |some xs=>if Qp [] p=true∧xs.all (Qp [])=true then some (xs.any fun y=>PyData.eqv (toD y) (toD p))else none
   |none=>none
def Rz(p q:PV)(h:List PO):Res PV:=match Dj p q h with
 |some b=>.ok (.bl b) h
 |none=>.bad
def kt(p q:PV)(h:List PO):Res PV:=match Dj p q h with
 |some b=>.ok (.bl (!b)) h
 |none=>.bad
noncomputable def CJ(K:W.Frag)(neg:Bool):R2:=fun x y H Q=>∃b:Bool,Q (.bl (if neg then !b else b)) H∧
  ((∃i j,x=.str i∧y=.str j∧b=!(Builtin.Str.occurrences j i 0 j.length 1).isEmpty)∨(∃a o,y=.ref a∧pe H a x o∧b=o.isSome)∨
   (∃p xs d ds,y=.ref p∧(Mq K H p xs∨Nf K H p xs)∧Sh K H x d∧mD K H xs ds∧d.canLay0=true∧ds.all PyData.canLay0=true∧d.depth≤60∧b=ds.any fun e=>PyData.eqv e d))
section
variable{X:Cx}{T:Tab}{Ew:VK}{a b:Expr}{fa fb:Ex}{pos:Pos}
noncomputable def jZ(h:Heap)(d:PyData)(y:Value):Bool:=open Classical in if q:∃e as,Reads h y e as∧e.canLay0=true then PyData.eqv q.choose d else false
theorem xf{h:Heap}{d e:PyData}{y:Value}{as:List Addr}(r:Reads h y e as)(c:e.canLay0=true):jZ h d y=PyData.eqv e d:=by
 have q:∃e as,Reads h y e as∧e.canLay0=true:=⟨e,as,r,c⟩
 unfold jZ;rw[dif_pos q];obtain⟨as',r',c'⟩:=q.choose_spec;rw[SeqAt.Reads.unique _ _ _ _ _ c r r']
theorem jR{h:Heap}{d:PyData}:∀{us:List Value}{ds:List PyData}{as:List Addr},ReadsAll h us ds as→ds.all PyData.canLay0=true→us.any (jZ h d)=ds.any fun e=>PyData.eqv e d:=by
 intro us ds as q c;cases q with
 |nil=>rfl
 |cons r t=>simp only[List.all_cons,Bool.and_eq_true]at c;rw[List.any_cons,List.any_cons,xf r c.1,jR t c.2]
theorem jA{A:Around}{s:Shared}{d:PyData}{v:Value}{bs:List Addr}(rv:Reads s.heap v d bs)(cd:d.canLay0=true)(hu:A.units+d.depth<cLine):
  ∀{us:List Value}{ds:List PyData}{as:List Addr},ReadsAll s.heap us ds as→ds.all PyData.canLay0=true→∀u∈us,SeqAt.EqAt A s u v (jZ s.heap d u):=by
 intro us ds as q c u V5;cases q with
 |nil=>cases V5
 |cons r t=>
  simp only[List.all_cons,Bool.and_eq_true]at c;rcases List.mem_cons.mp V5 with rfl|V5
  ·rw[xf r c.1];exact SeqAt.eqAt_reads _ _ A s _ _ _ _ r rv c.1 cd (by have:=Nat.min_le_right (PyData.depth ‹PyData›) d.depth;omega)
  ·exact jA rv cd hu t c.2 u V5
theorem AI(hu:X.A.units+64<cLine):Ng X (compareOp .In) (CJ X.K false):=by
 intro pins s σ H x y v u Q I rx ry h;obtain⟨b,q,h⟩:=h;have fin:∀s',Inv X pins σ H s'→EP X pins σ Q (.bool b) s':=fun s' I'=>⟨.bl b,H,I',rfl,q⟩
 rcases h with⟨i,j,rfl,rfl,rfl⟩|⟨a,o,rfl,g,rfl⟩|⟨p,xs,d,ds,rfl,sq,rd,Wn,c1,c2,dp,rfl⟩
 ·obtain⟨t,rfl⟩:=rx;obtain⟨t',rfl⟩:=ry;exact in_str (fin s I)
 ·cases ry
  exact LC (by omega) I g rx fun s' I'=>fin s' I'
 ·cases ry
  obtain⟨as,ra⟩:=rd.reads I rx;rcases sq with hq|hq
  ·obtain⟨its,r,pl,hz⟩:=I.list hq;obtain⟨bs,rb⟩:=Wn.reads I r;refine SeqAt.in_listAt (jZ s.heap d) pl.isList (fun w hw=>jA ra c1 (by show X.A.units+1+_<_;omega) rb c2 w (by simpa using hw)) ?_;rw[show its.toArray.any (jZ s.heap d)=its.any (jZ s.heap d) by simp,jR rb c2];exact fin s I
  ·obtain⟨its,r,pl,hz⟩:=I.tuple hq;obtain⟨bs,rb⟩:=Wn.reads I r;refine SeqAt.in_tupleAt (jZ s.heap d) pl (fun w hw=>jA ra c1 (by show X.A.units+1+_<_;omega) rb c2 w (by simpa using hw)) ?_;rw[show its.toArray.any (jZ s.heap d)=its.any (jZ s.heap d) by simp,jR rb c2];exact fin s I
theorem yj(hu:X.A.units+64<cLine):Ng X (compareOp .NotIn) (CJ X.K true):=by
 intro pins s σ H x y v u Q I rx ry h;obtain⟨b,q,h⟩:=h;have fin:∀s',Inv X pins σ H s'→EP X pins σ Q (.bool (!b)) s':=fun s' I'=>⟨.bl (!b),H,I',rfl,q⟩
 rcases h with⟨i,j,rfl,rfl,rfl⟩|⟨a,o,rfl,g,rfl⟩|⟨p,xs,d,ds,rfl,sq,rd,Wn,c1,c2,dp,rfl⟩
 ·obtain⟨t,rfl⟩:=rx;obtain⟨t',rfl⟩:=ry;exact notIn_str (fin s I)
 ·cases ry
  exact DZ (by omega) I g rx fun s' I'=>fin s' I'
 ·cases ry
  obtain⟨as,ra⟩:=rd.reads I rx;rcases sq with hq|hq
  ·obtain⟨its,r,pl,hz⟩:=I.list hq;obtain⟨bs,rb⟩:=Wn.reads I r;refine SeqAt.notIn_listAt (jZ s.heap d) pl.isList (fun w hw=>jA ra c1 (by show X.A.units+1+_<_;omega) rb c2 w (by simpa using hw)) ?_;rw[show its.toArray.any (jZ s.heap d)=its.any (jZ s.heap d) by simp,jR rb c2];exact fin s I
  ·obtain⟨its,r,pl,hz⟩:=I.tuple hq;obtain⟨bs,rb⟩:=Wn.reads I r;refine SeqAt.notIn_tupleAt (jZ s.heap d) pl (fun w hw=>jA ra c1 (by show X.A.units+1+_<_;omega) rb c2 w (by simpa using hw)) ?_;rw[show its.toArray.any (jZ s.heap d)=its.any (jZ s.heap d) by simp,jR rb c2];exact fin s I
theorem xj(p:PV):Qx [] p=toD p:=by
 unfold Qx
 split
 ·simp[toD]
 ·rfl
theorem gQ:∀l:List PyData,PyData.canLayAll0 l=l.all PyData.canLay0
 |[]=>by simp[PyData.canLayAll0]
 |x::r=>by simp[PyData.canLayAll0,gQ r]
theorem sL{K:W.Frag}{T:Tab}{F H:Hp}{m:List Addr}{h:List PO}{p q:PV}{x y:V}{k:Bool}(R:RelH K T F m h H)(rp:aL K T F m p x)(rq:aL K T F m q y)(e:Dj p q h=some k):
    (∃i j,x=.str i∧y=.str j∧k=!(Builtin.Str.occurrences j i 0 j.length 1).isEmpty)∨(∃a o,y=.ref a∧pe H a x o∧k=o.isSome)∨
   (∃p xs d ds,y=.ref p∧(Mq K H p xs∨Nf K H p xs)∧Sh K H x d∧mD K H xs ds∧d.canLay0=true∧ds.all PyData.canLay0=true∧d.depth≤60∧k=ds.any fun e=>PyData.eqv e d):=by
  unfold Dj at e
  split at e
  · rename_i b
    split at e
    · rename_i a
      cases rp;cases rq
      simp only[Option.some.injEq]at e;subst e;exact .inl ⟨_,_,rfl,rfl,(LJ b a).symm⟩
    · cases e
  · split at e
    · rename_i kvs ed
      split at e
      · rename_i kk ek
        simp only[Option.some.injEq]at e;subst e;obtain⟨a,ws,rfl,rd,kq,rr⟩:=ig R rq ed;have hx:=fI rp ek;subst hx;refine .inr (.inl ⟨a,iP ws (tk kk),rfl,.inl ⟨ws,tk kk,rd,rfl,rfl⟩,?_⟩);rcases iz kq rr kk with⟨p1,v1,h1,h2,_⟩|⟨h1,h2⟩
        · rw[h1,h2];rfl
        · rw[h1,h2];rfl
      · cases e
    · split at e
      · rename_i xs es
        split at e
        · rename_i hc
          simp only[Option.some.injEq]at e;subst e;obtain⟨a,ws,rfl,sq,rr⟩:=qG R rq es
          have h1:(toD p).canLay0=true∧(toD p).depth≤60:=by have:=hc.1;unfold Qp at this;simpa[xj]using this
          have h2:PyData.canLayAll0 (fU xs)=true:=by rw[gQ,nj,List.all_map];rw[List.all_eq_true]at hc ⊢;intro z hz;have:=hc.2 z hz;unfold Qp at this;rw[xj,Bool.and_eq_true]at this;exact this.1
          refine .inr (.inr ⟨a,ws,toD p,fU xs,rfl,sq,rp.rd R.same h1.1,rr.rd R.same h2,h1.1,by rw[← gQ];exact h2,h1.2,?_⟩);rw[nj,List.any_map];rfl
        · cases e
      · cases e
theorem wv{K:W.Frag}{T:Tab}:eZ K T (CJ K false) Rz:=by
 intro F m h H x y p q Q Ew R rp rq w;unfold Rz at w
 split at w
 ·rename_i b e;exact⟨b,aS w R (.bl b),sL R rp rq e⟩
 ·exact w.elim
theorem uB{K:W.Frag}{T:Tab}:eZ K T (CJ K true) kt:=by
 intro F m h H x y p q Q Ew R rp rq w;unfold kt at w
 split at w
 ·rename_i b e;exact⟨b,aS w R (.bl (!b)),sL R rp rq e⟩
 ·exact w.elim
end
def cut{α:Type}(xs:List α)(lo hi:Option Int):List α:=(xs.drop (HT.G3 xs.length 0 lo)).take (HT.G3 xs.length xs.length hi - HT.G3 xs.length 0 lo)
theorem Ij(lo hi:Option Int)(n:Nat):Builtin.Str.strSliceIndices lo hi 1 n=(List.range (HT.G3 n n hi - HT.G3 n 0 lo)).map (HT.G3 n 0 lo+ ·):=by
 rw[← sliceRange_one];unfold Builtin.Str.strSliceIndices
 have e1:∀d:Nat,d≤n→∀o:Option Int,(match o with|none=>(d:Int)|some i=>(if(1:Int)>0 then max 0 (min (if i<0 then i+(n:Int)else i) n)else max (-1) (min (if i<0 then i+(n:Int)else i) ((n:Int) - 1))))=((HT.G3 n d o:Nat):Int):=by
  intro d hd o
  cases o with
  |none=>rfl
  |some i=>
   simp only[show(1:Int)>0 by decide,if_true,HT.G3]
   by_cases h:i<0
   ·simp only[h,if_true];omega
   ·simp only[h,if_false];omega
 have e2:=e1 0 (Nat.zero_le _) lo;have e3:=e1 n (Nat.le_refl _) hi;simp only[show(1:Int)>0 by decide,if_true]at e2 e3 ⊢;rw[← e2,← e3];rfl
theorem Ek(l:List Nat)(lo hi:Option Int):Txt.slice (S l) lo hi=S (cut l lo hi):=by
 unfold Txt.slice;have hn:(S l).length=l.length:=fj l;rw[hn,Ij];have hlo:=HT.Sy l.length 0 (Nat.zero_le _) lo;have hhi:=HT.Sy l.length l.length (Nat.le_refl _) hi
 split
 ·rename_i h
  have h':HT.G3 l.length l.length hi - HT.G3 l.length 0 lo=l.length:=by simpa using h
  have e0:HT.G3 l.length 0 lo=0:=by omega
  unfold cut;rw[h',e0];simp
 ·rw[pick_run];show(⟨_⟩:Str)=⟨_⟩
  unfold cut;simp[S]
section
variable{K:W.Frag}{T:Tab}{F H:Hp}{m:List Addr}{h:List PO}
theorem aq.cut{ps:List PV}{vs:List V}(r:aq K T F m ps vs)(lo hi:Option Int):aq K T F m (cut ps lo hi) (tN vs lo hi):=by unfold L3.cut L2.tN;rw[← r.length];exact(r.drop _).take _
end
def d7(p q:PV)(h:List PO):Res PV:=match p,q with
 |.str l,.int i=>match m_ l i with
  |some c=>if l.length≤sizeLine then .ok (.str [c]) h else .bad
  |none=>.bad
 |.tup xs,.int i=>match m_ xs i with
  |some v=>.ok (ay h v) h
  |none=>.bad
 |p,q=>match Ru h p with
  |some kvs=>match eS q with
   |some k=>match jk kvs k with
    |some v=>.ok (ay h v) h
    |none=>.bad
   |none=>.bad
  |none=>match Q9 h p with
   |some xs=>match q with
    |.int i=>match m_ xs i with
     |some v=>.ok (ay h v) h
     |none=>.bad
    |_=>.bad
   |none=>.bad
def KL(K:W.Frag):R2:=fun x y H Q=>ZS K x y H Q∨∃a v,x=.ref a∧pe H a y (some v)∧Q v H
theorem CT{K:W.Frag}{T:Tab}:eZ K T (KL K) d7:=by
 intro F m h H x y p q Q Ew R rp rq w;unfold d7 at w
 split at w
 ·rename_i l i
  cases rp;cases rq
  split at w
  ·rename_i c e
   split at w
   ·rename_i hz;exact .inl (.inr (.inr ⟨_,_,c,rfl,rfl,by rw[fj];exact hz,by rw[EX];exact e,aS w R (.str [c])⟩))
   ·exact w.elim
  ·exact w.elim
 ·rename_i xs i
  cases rq
  split at w
  ·rename_i v e;obtain⟨a,vs,rfl,ea,ra⟩:=fN R rp;obtain⟨u,eu,ru⟩:=ra.at e;exact .inl (.inr (.inl ⟨a,vs,i,u,rfl,rfl,ea,eu,aS w R (R.R9 ru)⟩))
  ·exact w.elim
 ·split at w
  ·rename_i kvs ed
   split at w
   ·rename_i k ek
    split at w
    ·rename_i v ev;obtain⟨a,ws,rfl,rd,kq,rr⟩:=ig R rp ed;have hy:=fI rq ek;subst hy;rcases iz kq rr k with⟨p1,v1,h1,h2,r1⟩|⟨h1,h2⟩
     ·rw[ev]at h1;cases h1;exact .inr ⟨a,v1,rfl,.inl ⟨ws,tk k,rd,rfl,h2.symm⟩,aS w R (R.R9 r1)⟩
     ·rw[ev]at h1;cases h1
    ·exact w.elim
   ·exact w.elim
  ·split at w
   ·rename_i xs el
    split at w
    ·cases rq
     split at w
     ·rename_i v e;obtain⟨a,vs,rfl,ea,ra⟩:=fO R rp el;obtain⟨u,eu,ru⟩:=ra.at e;exact .inl (.inl ⟨a,vs,_,u,rfl,rfl,ea,eu,aS w R (R.R9 ru)⟩)
     ·exact w.elim
    ·exact w.elim
   ·exact w.elim
section
variable{X:Cx}{T:Tab}{Ew:VK}{a b:Expr}{fa fb:Ex}{pos:Pos}
theorem DH(hu:X.A.units+1<cLine):T8 X (fun x y H Q=>∃a v,x=.ref a∧pe H a y (some v)∧Q v H):=by
 intro value slice pins s σ H x y v u Q I rx ry q hs;obtain⟨a,v1,rfl,g,q⟩:=q
 cases rx
 have hT:=tI I g;unfold subscriptTail;refine wpAny_bind ?_;rw[getitemInPython_of_ne hT.not_modules];refine wpAny_bind (wpAny_specialOf hT PySem.F.slot_dict_getitem.lookup ?_)
 have fin:wpAny (model X.prog X.w) X.A (subscripted slice false (.ref a) u) (fun r s₃=>wpAny (model X.prog X.w) X.A (letTemporaryGo value (.ref a) r >>= fun _=>pure r) (EP X pins σ Q) X.xe s₃) X.xe s:=by rw[hs];exact wpAny_operating (wpAny_mono (yH (E:=X.xe) hu I g ry fun w' s3 I3 Rh=>show EP X pins σ Q w' s3 from⟨v1,H,I3,Rh,q⟩) (fun r s₃ h₃=>wpAny_bind (wpAny_letTemporaryGo (wpAny_pure h₃))) fun _ _ x=>x)
 first
  |exact wpAny_pure (wpAny_bind fin)
  |exact wpAny_bind (wpAny_pure (wpAny_bind fin))
  |exact wpAny_bind fin
theorem Iw(hu:X.A.units+64<cLine)(ha:RE X T Ew a fa)(hb:RE X T Ew b fb)(hs:∀o i,subscripted b false o i=operate [o,i] (getItem o i):=by intro _ _;rfl):RE X T Ew (.Subscript a b pos) (c2 d7 fa fb):=by with_unfolding_all exact(
 PE.imp (IS (T8.or He (DH (by omega))) ha hb hs) fun σ H Q w=>w2 CT w)
abbrev Ox:=Ev→List PO→Res (Option Int)
@[irreducible] def RO(X:Cx)(T:Tab)(Ew:VK)(e:Option Expr)(f:Ox):Prop:=L2.PO X e (fun σ H Q=>∃F m ρ h,gZ X.K T F m ρ h σ H∧aG X.K T (fun _ _ (a b:Option Int)=>a=b) F m H Q Ew (f ρ h))
noncomputable def gJ:Ox:=fun _ h=>.ok none h
def dW(f:Ex):Ox:=fun ρ h=>(f ρ h).bind fun p h1=>match p with
 |.int i=>.ok (some i) h1
 |_=>.bad
theorem Cp:RO X T Ew none gJ:=by with_unfolding_all exact(
  (by rintro pins s σ H Q I ⟨F,m,ρ,h,R,p⟩;exact CY pins s σ H Q I (aG.here p R.toRelH rfl)))
theorem Co{e:Expr}{f:Ex}(he:RE X T Ew e f):RO X T Ew (some e) (dW f):=by with_unfolding_all exact(
  fun pins s σ H Q I ⟨F,m,ρ,h,R,p⟩=>by
 refine CW he pins s σ H Q I ⟨F,m,ρ,h,R,(aG.bind p).mono ?_⟩;rintro x H1 ⟨F1,m1,h1,a,s1,R1,ra,p1⟩
 cases ra with
 |int i=>exact⟨i,rfl,aG.here p1 R1 rfl⟩
 |_=>exact p1.elim)
def Xr(p:PV)(lo hi:Option Int)(h:List PO):Res PV:=match p with
 |.str l=>if l.length≤sizeLine then .ok (.str (cut l lo hi)) h else .bad
 |.tup xs=>if HT.G3 xs.length 0 lo=0∧HT.G3 xs.length xs.length hi=xs.length then .bad else .ok (.tup (cut xs lo hi)) h
 |p=>match Q9 h p with
  |some xs=>.ok (.lst (cut xs lo hi)) h
  |none=>.bad
def ID(K:W.Frag):V→Option Int→Option Int→Hp→VK→Prop:=fun x l u H Q=>IB x l u H Q∨IA K x l u H Q∨IC K x l u H Q
theorem wu{K:W.Frag}{F H:Hp}{m:List Addr}{h:List PO}{Q:VK}{p:PV}{x:V}{lo hi:Option Int}(R:RelH K T F m h H)(rp:aL K T F m p x)(w:aG K T (aL K T) F m H Q Ew (Xr p lo hi h)):ID K x lo hi H Q:=by
 unfold Xr at w
 split at w
 ·cases rp
  split at w
  ·rename_i hz;exact .inl ⟨_,rfl,by rw[fj];exact hz,by rw[Ek];exact aS w R (.str _)⟩
  ·exact w.elim
 ·rename_i xs
  split at w
  ·exact w.elim
  ·rename_i hz;obtain⟨a,vs,rfl,ea,ra⟩:=fN R rp;exact .inr (.inl ⟨a,vs,rfl,ea,by rw[← ra.length];exact hz,kW w R (ra.cut lo hi)⟩)
 ·split at w
  ·rename_i xs el;obtain⟨a,vs,rfl,ea,ra⟩:=fO R rp el;exact .inr (.inr ⟨a,vs,rfl,ea,eR w R (ra.cut lo hi)⟩)
  ·exact w.elim
theorem gH{x:Str}{id:String}{r:List V→Hp→VK→Prop}{g:List PV→List PO→Res PV}{e:Expr}{es:List Expr}{f:Ax}{p:Pos}(hc:cY X (.builtin id) r)(P:qz X.K T r g)(hg:Gl X x)(hm:X.mg x=none)(hv:bootBuiltins x=some (.builtin id))
  (ha:RA X T Ew (e::es) f) (hn:x≠"__name__":=by decide) (Qh:nD0 x:=by decide)(he:sE0 X e es:=by rfl) (Mu:sP0 X es pos:=by rfl):
  RE X T Ew (.Call (.Name x p) (e::es) [] pos) (cN g f):=by with_unfolding_all exact(
  PE.imp (Az hc hg hm hv ha hn Qh he Mu) fun σ H Q w=>wN P w)
theorem iF{x:Str}{id:String}{r:List V→Hp→VK→Prop}{g:List PV→List PO→Res PV}{e:Expr}{es:List Expr}{f:Ax}{p:Pos}(hc:cY X (.type id) r)(P:qz X.K T r g)(hg:Gl X x)(hm:X.mg x=none)(hv:bootBuiltins x=some (.type id))
  (ha:RA X T Ew (e::es) f) (hn:x≠"__name__":=by decide) (Qh:nD0 x:=by decide)(he:sE0 X e es:=by rfl) (Mu:sP0 X es pos:=by rfl):
  RE X T Ew (.Call (.Name x p) (e::es) [] pos) (cN g f):=by with_unfolding_all exact(
  PE.imp (yh hc hg hm hv ha hn Qh he Mu) fun σ H Q w=>wN P w)
def Jg(h:List PO)(p:PV):Option Nat:=match p with
 |.str l=>if l.length≤sizeLine then some l.length else none
 |p=>match Ru h p with
  |some kvs=>some kvs.length
  |none=>match Um h p with
   |some xs=>some xs.length
   |none=>none
def gI(ps:List PV)(h:List PO):Res PV:=match ps with
 |[p]=>match Jg h p with
  |some n=>.ok (.int n) h
  |none=>.bad
 |_=>.bad
theorem yN{X:Cx}:cY X (.builtin "len") (fun xs H Q=>∃a kvs,xs= [V.ref a]∧Rd H a (.dK kvs)∧Q (.int kvs.length) H):=by
 intro pins s σ H xs us Q I r h;obtain⟨a,kvs,rfl,ha,q⟩:=h;obtain⟨u,rfl,ru⟩:=nc r
 cases ru
 exact JF I ha fun t s' I'=>⟨.int kvs.length,H,I',⟨t,rfl⟩,q⟩
theorem yO{X:Cx}:cY X (.builtin "len") (fun xs H Q=>(∃p ys,xs= [.ref p]∧(Mq X.K H p ys∨Nf X.K H p ys)∧Q (.int ys.length) H)∨(∃z,xs= [.str z]∧z.length≤sizeLine∧Q (.int z.length) H)∨∃a kvs,xs= [V.ref a]∧Rd H a (.dK kvs)∧Q (.int kvs.length) H):=
 cY.or rG (cY.or rF yN)
theorem aq.one{K:W.Frag}{F:Hp}{m:List Addr}{p:PV}{xs:List V}(r:aq K T F m [p] xs):∃x,xs= [x]∧aL K T F m p x:=by
 cases r with
 |cons r t=>cases t;exact⟨_,rfl,r⟩
theorem aq.two{K:W.Frag}{F:Hp}{m:List Addr}{p q:PV}{xs:List V}(r:aq K T F m [p,q] xs):∃x y,xs= [x,y]∧aL K T F m p x∧aL K T F m q y:=by
 cases r with
 |cons r t=>cases t with
  |cons r2 t2=>cases t2;exact⟨_,_,rfl,r,r2⟩
theorem Ah{K:W.Frag}{T:Tab}:qz K T (fun xs H Q=>(∃p ys,xs= [.ref p]∧(Mq K H p ys∨Nf K H p ys)∧Q (.int ys.length) H)∨(∃z,xs= [.str z]∧z.length≤sizeLine∧Q (.int z.length) H)∨∃a kvs,xs= [V.ref a]∧Rd H a (.dK kvs)∧Q (.int kvs.length) H) gI:=by
 intro F m h H xs ps Q Ew R rp w;unfold gI at w
 split at w
 ·rename_i p;obtain⟨x,rfl,rx⟩:=rp.one
  split at w
  ·rename_i n e;unfold Jg at e
   split at e
   ·cases rx
    split at e
    ·rename_i hz;simp only[Option.some.injEq]at e;subst e;exact .inr (.inl ⟨_,rfl,by rw[fj];exact hz,by rw[fj];exact aS w R (.int _)⟩)
    ·cases e
   ·split at e
    ·rename_i kvs ed;simp only[Option.some.injEq]at e;subst e;obtain⟨a,ws,rfl,rd,kq,rr⟩:=ig R rx ed;have hl:ws.length=kvs.length:=by have:=congrArg List.length kq;simpa using this
     exact .inr (.inr ⟨a,ws,rfl,rd,by rw[hl];exact aS w R (.int _)⟩)
    ·split at e
     ·rename_i ys es;simp only[Option.some.injEq]at e;subst e;obtain⟨a,ws,rfl,sq,rr⟩:=qG R rx es;exact .inl ⟨a,ws,rfl,sq,by rw[← rr.length];exact aS w R (.int _)⟩
     ·cases e
  ·exact w.elim
 ·exact w.elim
def lV(h:List PO):PV→Option String
 |.non=>some "NoneType"
 |.bl _=>some "bool"
 |.int _=>some "int"
 |.str _=>some "str"
 |.tup _=>some "tuple"
 |p=>match Ru h p with
  |some _=>some "dict"
  |none=>match Q9 h p with
   |some _=>some "list"
   |none=>none
noncomputable def sk(t c:String):Bool:=(t==c)||(t=="bool"&&c=="int")
noncomputable def qb:List String:=["str","int","bool","list","tuple","dict"]
def cr(ps:List PV)(h:List PO):Res PV:=match ps with
 |[p,.ty c]=>if qb.contains c=true then match lV h p with
   |some t=>.ok (.bl (sk t c)) h
   |none=>.bad
  else .bad
 |_=>.bad
end
inductive Tw(K:W.Frag)(H:Hp):V→String→Prop where
 |non:Tw K H .non "NoneType"
 |bl (x:Bool):Tw K H (.bl x) "bool"
 |int (i:Int):Tw K H (.int i) "int"
 |str (x:Str):Tw K H (.str x) "str"
 |lst {a:Addr} {xs:List V} (e:Mq K H a xs):Tw K H (.ref a) "list"
 |tup {a:Addr} {xs:List V} (e:Nf K H a xs):Tw K H (.ref a) "tuple"
 |dct {a:Addr} {kvs:List (Key×V)} (e:Rd H a (.dK kvs)):Tw K H (.ref a) "dict"
theorem rJ{X:Cx}:cY X (.builtin "isinstance") (fun xs H Q=>∃x c t b,xs= [x,.ty c]∧Tw X.K H x t∧W.kitOne X.K (.type t) (.type c)=some b∧Q (.bl b) H):=by
 intro pins s σ H xs us Q I r h;obtain⟨x,c,t,b,rfl,ty,e,q⟩:=h;obtain⟨u,w',rfl,ru,Rh⟩:=yW r
 cases(show w'=Value.type c from Rh)
 have fin:∀tk,EP X pins σ Q (.bool b) { s with toks:=tk }:=fun tk=>⟨.bl b,H,I.tok tk,rfl,q⟩
 cases ty with
 |non=>cases(show u=Value.none from ru);exact W.kia_one W.kitx_none I.Qq True.intro e (fun z=>nomatch z) fin
 |bl y=>cases(show u=Value.bool y from ru);exact W.kia_one W.kitx_bool I.Qq True.intro e (fun z=>nomatch z) fin
 |int i=>obtain⟨t,q⟩:=(show∃t,u=Value.int i t from ru);cases q;exact W.kia_one W.kitx_int I.Qq True.intro e (fun z=>nomatch z) fin
 |str y=>obtain⟨t,q⟩:=(show∃t,u=Value.str y t from ru);cases q;exact W.kia_one W.kitx_str I.Qq True.intro e (fun z=>nomatch z) fin
 |lst ea=>
  cases ru
  obtain⟨its,_,⟨o,n,h1,h2,_,_⟩,_⟩:=I.list ea;exact W.kia_one W.kitx_list I.Qq ⟨_,h1,h2⟩ e (fun z=>nomatch z) fin
 |tup ea=>
  cases ru
  obtain⟨its,_,⟨o,h1,h2,_⟩,_⟩:=I.tuple ea;exact W.kia_one W.kitx_tuple I.Qq ⟨o,h1,h2⟩ e (fun z=>nomatch z) fin
 |dct ea=>
  cases ru
  obtain⟨_,_,vs,_,p⟩:=gP I.hok ea;obtain⟨o,es,ep,h1,h2,_⟩:=p;exact W.kia_one W.kitx_dict I.Qq ⟨o,h1,h2.1⟩ e (fun z=>nomatch z) fin
theorem nh{K:W.Frag}{T:Tab}{F H:Hp}{m:List Addr}{h:List PO}{p:PV}{x:V}{t:String}(R:RelH K T F m h H)(r:aL K T F m p x)(e:lV h p=some t):Tw K H x t:=by
 unfold lV at e
 split at e
 ·cases e;cases r;exact .non
 ·cases e;cases r;exact .bl _
 ·cases e;cases r;exact .int _
 ·cases e;cases r;exact .str _
 ·cases e
  obtain⟨a,vs,rfl,ea,_⟩:=fN R r;exact .tup ea
 ·split at e
  ·rename_i kvs ed
   cases e
   obtain⟨a,ws,rfl,rd,_⟩:=ig R r ed;exact .dct rd
  ·split at e
   ·rename_i xs es
    cases e
    obtain⟨a,ws,rfl,sq,_⟩:=fO R r es;exact .lst sq
   ·cases e
theorem pV(K:W.Frag){t c:String}(ht:t∈ ["NoneType","bool","int","str","tuple","dict","list"])(hc:qb.contains c=true):W.kitOne K (.type t) (.type c)=some (sk t c):=by
 have Vv:c∈qb:=by simpa using hc
 simp only[qb,List.mem_cons,List.not_mem_nil,or_false]at Vv ht;rcases ht with rfl|rfl|rfl|rfl|rfl|rfl|rfl<;>rcases Vv with rfl|rfl|rfl|rfl|rfl|rfl<;>rfl
theorem ni{h:List PO}{p:PV}{t:String}(e:lV h p=some t):t∈ ["NoneType","bool","int","str","tuple","dict","list"]:=by
 unfold lV at e
 split at e
 ·cases e;simp
 ·cases e;simp
 ·cases e;simp
 ·cases e;simp
 ·cases e;simp
 ·split at e
  ·cases e;simp
  ·split at e
   ·cases e;simp
   ·cases e
section
variable{X:Cx}{T:Tab}{Ew:VK}{a b:Expr}{fa fb:Ex}{pos p0:Pos}
theorem sG{K:W.Frag}{T:Tab}:qz K T (fun xs H Q=>∃x c t b,xs= [x,.ty c]∧Tw K H x t∧W.kitOne K (.type t) (.type c)=some b∧Q (.bl b) H) cr:=by
 intro F m h H xs ps Q Ew R rp w;unfold cr at w
 split at w
 ·rename_i p c;obtain⟨x,y,rfl,rx,ry⟩:=rp.two
  cases ry
  split at w
  ·rename_i hc
   split at w
   ·rename_i t e;exact⟨x,c,t,_,rfl,nh R rx e,pV K (ni e) hc,aS w R (.bl _)⟩
   ·exact w.elim
  ·exact w.elim
 ·exact w.elim
theorem FG{x:Str}{n:String}{pos:Pos}(hg:Gl X x)(hm:X.mg x=none)(hv:bootBuiltins x=some (.type n))(hn:x≠"__name__":=by decide)(hd:nD0 x:=by decide):RE X T Ew (.Name x pos) (cK (.ty n)):=by with_unfolding_all exact(
 gG (Dh (v:=.ty n) hg hm hv rfl hn hd) fun _ _=>.ty n)
theorem xZ{e:Expr}{es:List Expr}{f:Ax}(hg:Gl X "isinstance")(hm:X.mg "isinstance"=none)(ha:RA X T Ew (e::es) f)
  (he:sE0 X e es:=by rfl) (Mu:sP0 X es pos:=by rfl):
  RE X T Ew (.Call (.Name "isinstance" p0) (e::es) [] pos) (cN cr f):=by with_unfolding_all exact(
  gH rJ sG hg hm (by decide+kernel) ha (by decide) (by decide) he Mu)
theorem FU{e:Expr}{es:List Expr}{f:Ax}(hg:Gl X "len")(hm:X.mg "len"=none)(ha:RA X T Ew (e::es) f)
  (he:sE0 X e es:=by rfl) (Mu:sP0 X es pos:=by rfl):
  RE X T Ew (.Call (.Name "len" p0) (e::es) [] pos) (cN gI f):=by with_unfolding_all exact(
  gH yO Ah hg hm (by decide+kernel) ha (by decide) (by decide) he Mu)
noncomputable def Ik(i:Int):List Nat:=(Str.ofString (toString i)).cps.toList
def AB(ps:List PV)(h:List PO):Res PV:=match ps with
 |[.int i]=>if i.natAbs.log2<1920 then .ok (.str (Ik i)) h else .bad
 |_=>.bad
theorem Cv{e:Expr}{es:List Expr}{f:Ax}(hg:Gl X "str")(hm:X.mg "str"=none)(ha:RA X T Ew (e::es) f)
  (he:sE0 X e es:=by rfl) (Mu:sP0 X es pos:=by rfl):
  RE X T Ew (.Call (.Name "str" p0) (e::es) [] pos) (cN AB f):=by with_unfolding_all exact(
  iF rD (by
 intro F m h H xs ps Q Ew R rp w;unfold AB at w
 split at w
 ·obtain⟨x,rfl,rx⟩:=rp.one
  cases rx
  split at w
  ·rename_i hz;have q:=aS w R (.str _);rw[Ik,LI]at q;exact⟨_,rfl,hz,q⟩
  ·exact w.elim
 ·exact w.elim) hg hm (by decide+kernel) ha (by decide) (by decide) he Mu)
noncomputable def kY(ps:List PV)(h:List PO):Res PV:=match ps with
 |[.int i]=>.ok (.int i) h
 |[.bl b]=>.ok (.int (if b then 1 else 0)) h
 |_=>.bad
theorem CA{e:Expr}{es:List Expr}{f:Ax}(hg:Gl X "int")(hm:X.mg "int"=none)(ha:RA X T Ew (e::es) f)
  (he:sE0 X e es:=by rfl) (Mu:sP0 X es pos:=by rfl):
  RE X T Ew (.Call (.Name "int" p0) (e::es) [] pos) (cN kY f):=by with_unfolding_all exact(
  iF yP (by
 intro F m h H xs ps Q Ew R rp w;unfold kY at w
 split at w
 ·obtain⟨x,rfl,rx⟩:=rp.one
  cases rx
  exact .inl ⟨_,rfl,aS w R (.int _)⟩
 ·obtain⟨x,rfl,rx⟩:=rp.one
  cases rx
  exact .inr ⟨_,rfl,aS w R (.int _)⟩
 ·exact w.elim) hg hm (by decide+kernel) ha (by decide) (by decide) he Mu)
def nQ(ps:List PV)(h:List PO):Res PV:=match ps with
 |[p]=>match Um h p with
  |some xs=>.ok (.tup xs) h
  |none=>.bad
 |_=>.bad
theorem zJ{e:Expr}{es:List Expr}{f:Ax}(hg:Gl X "tuple")(hm:X.mg "tuple"=none)(ha:RA X T Ew (e::es) f)
  (he:sE0 X e es:=by rfl) (Mu:sP0 X es pos:=by rfl):
  RE X T Ew (.Call (.Name "tuple" p0) (e::es) [] pos) (cN nQ f):=by with_unfolding_all exact(
  iF oZ (by
 intro F m h H xs ps Q Ew R rp w;unfold nQ at w
 split at w
 ·rename_i p;obtain⟨x,rfl,rx⟩:=rp.one
  split at w
  ·rename_i ys es
   by_cases ht:∃zs,p=.tup zs
   ·obtain⟨zs,rfl⟩:=ht;simp only[Um,Option.some.injEq]at es;subst es;obtain⟨a,vs,rfl,ea,ra⟩:=fN R rx;exact⟨a,vs,rfl,.inr ⟨ea,aS w R rx⟩⟩
   ·have e':Q9 h p=some ys:=by
     unfold Um at es
     split at es
     ·exact absurd ⟨_,rfl⟩ ht
     ·exact es
    obtain⟨a,vs,rfl,ea,ra⟩:=fO R rx e';exact⟨a,vs,rfl,.inl ⟨ea,kW w R ra⟩⟩
  ·exact w.elim
 ·exact w.elim) hg hm (by decide+kernel) ha (by decide) (by decide) he Mu)
noncomputable def bx(ps:List PV)(h:List PO):Res PV:=if ps.length≤sizeLine then .ok (.lst ps) h else .bad
noncomputable def fg(ps:List PV)(h:List PO):Res PV:=if ps.length≤sizeLine then .ok (.ref h.length) (h++ [.lst ps])else .bad
noncomputable def au(ps:List PV)(h:List PO):Res PV:=if ps.length≤sizeLine then .ok (.tup ps) h else .bad
theorem FT{es:List Expr}{f:Ax}(ha:RA X T Ew es f):RE X T Ew (.List es pos) (cN bx f):=by with_unfolding_all
 refine PE.imp (As ha) ?_;rintro σ H Q ⟨F,m,ρ,h,R,p⟩;refine⟨F,m,ρ,h,R,(aG.bind p).mono ?_⟩;rintro xs H1 ⟨F1,m1,h1,ps,s1,R1,r1,w1⟩
 unfold bx at w1
 split at w1
 ·rename_i hz;exact⟨by rw[← r1.length];exact hz,eR w1 R1 r1⟩
 ·exact w1.elim
theorem Cz{es:List Expr}{f:Ax}(ha:RA X T Ew es f):RE X T Ew (.List es pos) (cN fg f):=by with_unfolding_all
 refine PE.imp (As ha) ?_;rintro σ H Q ⟨F,m,ρ,h,R,p⟩;refine⟨F,m,ρ,h,R,(aG.bind p).mono ?_⟩;rintro xs H1 ⟨F1,m1,h1,ps,s1,R1,r1,w1⟩
 unfold fg at w1
 split at w1
 ·rename_i hz;exact⟨by rw[← r1.length];exact hz,kX w1 R1 r1⟩
 ·exact w1.elim
theorem FH{es:List Expr}{f:Ax}{x1}(ha:RA X T Ew es f):RE X T Ew (.Tuple es x1 pos) (cN au f):=by with_unfolding_all
 refine PE.imp (Gu ha) ?_;rintro σ H Q ⟨F,m,ρ,h,R,p⟩;refine⟨F,m,ρ,h,R,(aG.bind p).mono ?_⟩;rintro xs H1 ⟨F1,m1,h1,ps,s1,R1,r1,w1⟩
 unfold au at w1
 split at w1
 ·rename_i hz;exact⟨by rw[← r1.length];exact hz,kW w1 R1 r1⟩
 ·exact w1.elim
noncomputable def Ze(h:List PO):PV→Option (List (PK×PV))
 |.ref i=>match h[i]? with
  |some (.dct kvs)=>some kvs
  |_=>none
 |_=>none
theorem DY{K:W.Frag}{F H:Hp}{m:List Addr}{h:List PO}{p:PV}{x:V}{kps:List (PK×PV)}(R:RelH K T F m h H)(r:aL K T F m p x)(e:Ze h p=some kps):∃a kvs,x=.ref a∧H a=some (.dK kvs)∧kvs.map (·.1)=kps.map (fun p=>tk p.1)∧aq K T F m (kps.map (·.2)) (kvs.map (·.2)):=by
 cases r with
 |@ref i a em=>
  have e:(match h[i]? with|some (.dct xs)=>some xs|_=>none)=some kps:=e
  cases q:h[i]? with
  |none=>rw[q]at e;cases e
  |some o=>
   rw[q]at e
   cases o with
   |dct xs=>simp only[Option.some.injEq]at e;subst e;obtain⟨_,vs,e1,k,rr⟩:=R.obj i _ a q em;exact⟨a,vs,rfl,e1,k,rr⟩
   |lst _=>cases e
   |o9 _=>cases e
 |_=>simp[Ze]at e
def qC(h:List PO):PV→Option Bool
 |.non=>some false
 |.bl b=>some b
 |.int i=>some (i !=0)
 |.str l=>if l.length≤sizeLine then some (!l.isEmpty)else none
 |p=>match Um h p with
  |some xs=>some (!xs.isEmpty)
  |none=>match Ze h p with
   |some kvs=>some (!kvs.isEmpty)
   |none=>none
def ci(f:Ex):Tx:=fun ρ h=>(f ρ h).bind fun p h1=>match qC h1 p with
 |some b=>.ok b h1
 |none=>.bad
theorem jD{α β:Type}{xs:List α}{ys:List β}(h:xs.length=ys.length):xs.isEmpty=ys.isEmpty:=by cases xs<;>cases ys<;>simp at h ⊢
theorem yZ{K:W.Frag}{F H:Hp}{m:List Addr}{h:List PO}{p:PV}{x:V}{k:Bool}(R:RelH K T F m h H)(r:aL K T F m p x)(e:qC h p=some k):HB K x H k:=by
 unfold qC at e
 split at e
 ·cases e;cases r;exact rfl
 ·cases e;cases r;exact rfl
 ·cases e;cases r;exact rfl
 ·rename_i l
  cases r
  split at e
  ·rename_i hz
   cases e
   refine⟨by rw[fj];exact hz,?_⟩;rw[fj]
   cases l<;>simp
   omega
  ·cases e
 ·split at e
  ·rename_i xs es
   cases e
   obtain⟨a,vs,rfl,ea,ra⟩:=qG R r es;rcases ea with ea|ea
   ·exact .inl ⟨vs,ea,by rw[jD ra.length]⟩
   ·exact .inr (.inl ⟨vs,ea,by rw[jD ra.length]⟩)
  ·split at e
   ·rename_i kvs ed
    cases e
    obtain⟨a,ws,rfl,e1,kq,_⟩:=DY R r ed;have hl:ws.length=kvs.length:=by have:=congrArg List.length kq;simpa using this
    exact .inr (.inr ⟨ws,e1,by rw[jD hl]⟩)
   ·cases e
theorem Ft(ha:RE X T Ew a fa)(he:∀whole,isTrue a X.env whole=(do let v ← whole;standAt a.pos;holding [v] (truthy v)):=by intro _;rfl):RT X T Ew a (ci fa):=by with_unfolding_all
 refine PT.imp (zZ ha he) ?_;rintro σ H Q ⟨F,m,ρ,h,R,p⟩;refine⟨F,m,ρ,h,R,(aG.bind p).mono ?_⟩;rintro x H1 ⟨F1,m1,h1,p1,s1,R1,r1,w1⟩
 cases e:qC h1 p1 with
 |none=>rw[e]at w1;exact w1.elim
 |some k=>rw[e]at w1;exact⟨k,yZ R1 r1 e,aG.here w1 R1 rfl⟩
def aB(f:Ex):Tx:=fun ρ h=>(f ρ h).bind fun p h1=>match p with
 |.bl b=>.ok b h1
 |_=>.bad
theorem iQ{op:CmpOp}{r:R2}{g:PV→PV→List PO→Res PV}(ho:Ng X (compareOp op) r)(P:eZ X.K T r g)(ha:RE X T Ew a fa)(hb:RE X T Ew b fb)(hm:behindInMarks op b=false):RT X T Ew (.Compare a [op] [b] pos) (aB (c2 g fa fb)):=by with_unfolding_all
 refine PT.imp (CM ho ha hb hm) ?_;rintro σ H Q ⟨F,m,ρ,h,R,p⟩
 have p':=(aG.bind (R:=aL X.K T) p).mono (Q':=fun x H1=>∃k,x=.bl k∧Q k H1) (by
  rintro x H1 ⟨F1,m1,h1,p1,s1,R1,r1,w1⟩;cases r1 with
  |bl k=>exact⟨k,rfl,aG.here w1 R1 rfl⟩
  |_=>exact w1.elim)
 exact w2 P ⟨F,m,ρ,h,R,p'⟩
def eP(f:Tx):Tx:=fun ρ h=>(f ρ h).bind fun b h1=>.ok (!b) h1
def di(f g:Tx):Tx:=fun ρ h=>(f ρ h).bind fun b h1=>if b=true then g ρ h1 else .ok false h1
def sj(f g:Tx):Tx:=fun ρ h=>(f ρ h).bind fun b h1=>if b=true then .ok true h1 else g ρ h1
theorem Fu{f:Tx}(ha:RT X T Ew a f):RT X T Ew (.UnaryOp .Not a pos) (eP f):=by with_unfolding_all exact(
 PT.imp (Ge ha) (by rintro σ H Q ⟨F,m,ρ,h,R,p⟩;exact ⟨F,m,ρ,h,R,(aG.bind p).mono (by rintro x H1 ⟨F1,m1,h1,p1,s1,R1,r1,w1⟩;cases r1;exact aG.here w1 R1 rfl)⟩))
@[irreducible] def RW(X:Cx)(T:Tab)(Ew:VK)(e:Expr)(f:Tx):Prop:=PW X e (wT X T Ew f)
theorem RW.rt{e:Expr}{f:Tx}(h:RW X T Ew e f):RT X T Ew e f:=by with_unfolding_all exact(
  PW.pt h)
theorem Cg{f:Tx}(ha:RT X T Ew a f):RW X T Ew (.BoolOp .And [a] pos) f:=by with_unfolding_all exact(
  CK ha)
theorem Fr{f:Tx}(ha:RT X T Ew a f):RW X T Ew (.BoolOp .Or [a] pos) f:=by with_unfolding_all exact(
  Gb ha)
theorem zw{f g:Tx}{rest:List Expr}(ha:RT X T Ew a f)(hb:RW X T Ew (.BoolOp .And (b::rest) pos) g):RW X T Ew (.BoolOp .And (a::b::rest) pos) (di f g):=by with_unfolding_all
 refine PW.imp (Gc ha hb) ?_;rintro σ H Q ⟨F,m,ρ,h,R,p⟩;refine⟨F,m,ρ,h,R,(aG.bind p).mono ?_⟩;rintro x H1 ⟨F1,m1,h1,p1,s1,R1,r1,w1⟩
 cases r1
 cases x with
 |true=>exact uY ⟨F1,m1,ρ,h1,R.of s1 R1,w1⟩
 |false=>exact uZ (aG.here w1 R1 rfl)
theorem Ey{f g:Tx}{rest:List Expr}(ha:RT X T Ew a f)(hb:RW X T Ew (.BoolOp .Or (b::rest) pos) g):RW X T Ew (.BoolOp .Or (a::b::rest) pos) (sj f g):=by with_unfolding_all
 refine PW.imp (IL ha hb) ?_;rintro σ H Q ⟨F,m,ρ,h,R,p⟩;refine⟨F,m,ρ,h,R,(aG.bind p).mono ?_⟩;rintro x H1 ⟨F1,m1,h1,p1,s1,R1,r1,w1⟩
 cases r1
 cases x with
 |true=>exact uY (aG.here w1 R1 rfl)
 |false=>exact uZ ⟨F1,m1,ρ,h1,R.of s1 R1,w1⟩
def vK(f g:Ex):Ex:=fun ρ h=>(f ρ h).bind fun p h1=>match p with
 |.bl b=>if b=true then g ρ h1 else .ok (.bl false) h1
 |_=>.bad
def VL(f g:Ex):Ex:=fun ρ h=>(f ρ h).bind fun p h1=>match p with
 |.bl b=>if b=true then .ok (.bl true) h1 else g ρ h1
 |_=>.bad
def yQ(f:Ex):Ex:=fun ρ h=>(f ρ h).bind fun p h1=>match p with
 |.bl b=>.ok (.bl (!b)) h1
 |_=>.bad
theorem FM{op}(ha:RE X T Ew a fa):RE X T Ew (.BoolOp op [a] pos) fa:=by with_unfolding_all exact(
  Gw ha)
theorem FY{rest:List Expr}(ha:RE X T Ew a fa)(hb:RE X T Ew (.BoolOp .And (b::rest) pos) fb):RE X T Ew (.BoolOp .And (a::b::rest) pos) (vK fa fb):=by with_unfolding_all
 refine PE.imp (GC ha hb) ?_;rintro σ H Q ⟨F,m,ρ,h,R,p⟩;refine⟨F,m,ρ,h,R,(aG.bind p).mono ?_⟩;rintro x H1 ⟨F1,m1,h1,p1,s1,R1,r1,w1⟩
 cases r1 with
 |bl k=>
  refine⟨k,rfl,?_⟩
  cases k with
  |true=>exact uY ⟨F1,m1,ρ,h1,R.of s1 R1,w1⟩
  |false=>exact uZ (aG.here w1 R1 (.bl _))
 |_=>exact w1.elim
theorem Iv{rest:List Expr}(ha:RE X T Ew a fa)(hb:RE X T Ew (.BoolOp .Or (b::rest) pos) fb):RE X T Ew (.BoolOp .Or (a::b::rest) pos) (VL fa fb):=by with_unfolding_all
 refine PE.imp (IQ ha hb) ?_;rintro σ H Q ⟨F,m,ρ,h,R,p⟩;refine⟨F,m,ρ,h,R,(aG.bind p).mono ?_⟩;rintro x H1 ⟨F1,m1,h1,p1,s1,R1,r1,w1⟩
 cases r1 with
 |bl k=>
  refine⟨k,rfl,?_⟩
  cases k with
  |true=>exact uY (aG.here w1 R1 (.bl _))
  |false=>exact uZ ⟨F1,m1,ρ,h1,R.of s1 R1,w1⟩
 |_=>exact w1.elim
theorem FN(ha:RE X T Ew a fa):RE X T Ew (.UnaryOp .Not a pos) (yQ fa):=by with_unfolding_all
 refine PE.imp (Gy ha) ?_;rintro σ H Q ⟨F,m,ρ,h,R,p⟩;refine⟨F,m,ρ,h,R,(aG.bind p).mono ?_⟩;rintro x H1 ⟨F1,m1,h1,p1,s1,R1,r1,w1⟩
 cases r1 with
 |bl k=>exact⟨k,rfl,aG.here w1 R1 (.bl _)⟩
 |_=>exact w1.elim
def Ec(t:Tx)(f g:Ex):Ex:=fun ρ h=>(t ρ h).bind fun b h1=>if b=true then f ρ h1 else g ρ h1
theorem zM{c:Expr}{t:Tx}(hc:RT X T Ew c t)(ha:RE X T Ew a fa)(hb:RE X T Ew b fb):RE X T Ew (.IfExp c a b pos) (Ec t fa fb):=by with_unfolding_all
 refine PE.imp (Au hc ha hb) ?_;rintro σ H Q ⟨F,m,ρ,h,R,p⟩;refine⟨F,m,ρ,h,R,(aG.bind p).mono ?_⟩;rintro x H1 ⟨F1,m1,h1,p1,s1,R1,r1,w1⟩
 cases r1
 cases x with
 |true=>exact uY ⟨F1,m1,ρ,h1,R.of s1 R1,w1⟩
 |false=>exact uZ ⟨F1,m1,ρ,h1,R.of s1 R1,w1⟩
end
section
variable{K:W.Frag}{T:Tab}{F H:Hp}{m:List Addr}{h:List PO}
theorem RelH.upd{i:Nat}{a:Addr}{o':PO}{ho:HO}(R:RelH K T F m h H)(em:m[i]? =some a)(hF:F a=none)(hH:∃u,H a=some u)(new:BL K T F m (upd H a ho) a o'):
  bf F m H F m (upd H a ho)∧RelH K T F m (h.set i o') (upd H a ho):=by
 have hi:i<h.length:=by
  rw[R.len];rcases Nat.lt_or_ge i m.length with q|q
  ·exact q
  ·rw[List.getElem?_eq_none q]at em;cases em
 have am:a∈m:=List.mem_of_getElem? em;refine⟨⟨cy.refl _,⟨[],by simp⟩,fun b u e n=>(aj (fun z=>n (by rw[z];exact am))).trans e,fun b u e=>?_,fun j c hj e=>(by rw[List.getElem?_eq_none hj]at e;cases e),fun c u e=>.inl e⟩,?_⟩
 ·by_cases hb:b=a
  ·subst hb;exact⟨_,aK⟩
  ·exact⟨u,by rw[aj hb];exact e⟩
 ·refine⟨fun b u e=>?_,by rw[List.length_set];exact R.len,fun j ob c e1 e2=>?_,R.nd⟩
  ·have hb:b≠a:=fun z=>by rw[z,hF]at e;cases e
   rw[aj hb];exact R.same b u e
  ·by_cases hj:i=j
   ·subst hj;rw[List.getElem?_set_self hi]at e1
    cases e1
    rw[em]at e2;cases e2;exact new
   ·rw[List.getElem?_set_ne hj]at e1
    have hc:c≠a:=fun z=>by
     subst z
     exact hj (by
      have R6:i<m.length:=by rw[← R.len];exact hi
      have U8:j<m.length:=by
       rcases Nat.lt_or_ge j m.length with q|q
       ·exact q
       ·rw[List.getElem?_eq_none q]at e2;cases e2
      rw[List.getElem?_eq_getElem R6,Option.some.injEq]at em;rw[List.getElem?_eq_getElem U8,Option.some.injEq]at e2;exact(List.getElem_inj R.nd).mp (em.trans e2.symm))
    have q:=R.obj j ob c e1 e2
    cases ob with
    |lst xs=>obtain⟨f,vs,z,rr⟩:=q;exact⟨f,vs,by rw[aj hc];exact z,rr⟩
    |dct xs=>obtain⟨f,vs,z,k,rr⟩:=q;exact⟨f,vs,by rw[aj hc];exact z,k,rr⟩
    |o9 q'=>exact q
noncomputable def sX(h:List PO):PV→Option (Nat×List PV)
 |.ref i=>match h[i]? with
  |some (.lst xs)=>some (i,xs)
  |_=>none
 |_=>none
theorem pU{p:PV}{x:V}{i:Nat}{ps:List PV}(R:RelH K T F m h H)(r:aL K T F m p x)(e:sX h p=some (i,ps)):∃a vs,x=.ref a∧m[i]? =some a∧F a=none∧H a=some (.lst vs)∧aq K T F m ps vs:=by
 cases r with
 |@ref j a em=>
  have e:(match h[j]? with|some (.lst xs)=>some (j,xs)|_=>none)=some (i,ps):=e
  cases q:h[j]? with
  |none=>rw[q]at e;cases e
  |some o=>
   rw[q]at e
   cases o with
   |lst xs=>simp only[Option.some.injEq,Prod.mk.injEq]at e;obtain⟨rfl,rfl⟩:=e;obtain⟨f,vs,e1,rr⟩:=R.obj j _ a q em;exact⟨a,vs,rfl,em,f,e1,rr⟩
   |dct _=>cases e
   |o9 _=>cases e
 |_=>simp[sX]at e
theorem Al{Q:VK}{Ew:VK}{i:Nat}{a:Addr}{ps:List PV}{vs Zy:List V}{p:PV}{x:V}(w:aG K T (aL K T) F m H Q Ew (.ok p (h.set i (.lst ps))))(R:RelH K T F m h H)(em:m[i]? =some a)(hF:F a=none)(hH:H a=some (.lst Zy))(r:aq K T F m ps vs)
  (rp:aL K T F m p x):Q x (upd H a (.lst vs)):=by
 obtain⟨s,R'⟩:=R.upd (o':=.lst ps) (ho:=.lst vs) em hF ⟨_,hH⟩ ⟨hF,vs,aK,r⟩;exact w F m _ _ s R' rp
def cC(h:List PO):PV→Option (PV×List PO)
 |.ref i=>match h[i]? with
  |some (.lst xs)=>if aI xs=true then some (.lst xs,h.set i (.o9 (.lst xs)))else none
  |some (.dct _)=>none
  |some (.o9 p)=>some (p,h)
  |none=>none
 |p=>if p.pure=true then some (p,h)else none
theorem DP{i:Nat}{a:Addr}{u:HO}{p:PV}(R:RelH K T F m h H)(em:m[i]? =some a)(hF:F a=none)(hH:H a=some u)(hp:p.pure=true)(r:aL K T (upd F a u) m p (.ref a)):
  bf F m H (upd F a u) m H∧RelH K T (upd F a u) m (h.set i (.o9 p)) H:=by
 have hi:i<h.length:=by
  rw[R.len];rcases Nat.lt_or_ge i m.length with q|q
  ·exact q
  ·rw[List.getElem?_eq_none q]at em;cases em
 have am:a∈m:=List.mem_of_getElem? em;have sF:cy F (upd F a u):=eQ hF u;refine⟨⟨sF,⟨[],by simp⟩,fun b o e _=>e,fun b o e=>⟨o,e⟩,fun j c hj e=>(by rw[List.getElem?_eq_none hj]at e;cases e),fun c o e=>?_⟩,?_⟩
 ·by_cases hc:c=a
  ·subst hc;exact .inr (.inr am)
  ·rw[aj hc]at e;exact .inl e
 ·refine⟨fun b o e=>?_,by rw[List.length_set];exact R.len,fun j ob c e1 e2=>?_,R.nd⟩
  ·by_cases hb:b=a
   ·subst hb;rw[aK]at e;cases e;exact hH
   ·rw[aj hb]at e;exact R.same b o e
  ·by_cases hj:i=j
   ·subst hj;rw[List.getElem?_set_self hi]at e1
    cases e1
    rw[em]at e2;cases e2;exact⟨r,hp,u,aK⟩
   ·rw[List.getElem?_set_ne hj]at e1
    have hc:c≠a:=fun z=>by
     subst z
     exact hj (by
      have R6:i<m.length:=by rw[← R.len];exact hi
      have U8:j<m.length:=by
       rcases Nat.lt_or_ge j m.length with q|q
       ·exact q
       ·rw[List.getElem?_eq_none q]at e2;cases e2
      rw[List.getElem?_eq_getElem R6,Option.some.injEq]at em;rw[List.getElem?_eq_getElem U8,Option.some.injEq]at e2;exact(List.getElem_inj R.nd).mp (em.trans e2.symm))
    have q:=R.obj j ob c e1 e2
    cases ob with
    |lst xs=>obtain⟨f,vs,z,rr⟩:=q;exact⟨by rw[aj hc];exact f,vs,z,rr.mono sF fun _ _ h=>h⟩
    |dct xs=>obtain⟨f,vs,z,k,rr⟩:=q;exact⟨by rw[aj hc];exact f,vs,z,k,rr.mono sF fun _ _ h=>h⟩
    |o9 q'=>obtain⟨r1,r2,o,r3⟩:=q;exact⟨r1.mono sF fun _ _ h=>h,r2,o,sF _ _ r3⟩
theorem jH{p q:PV}{x:V}{h':List PO}(R:RelH K T F m h H)(r:aL K T F m p x)(e:cC h p=some (q,h')):∃F',bf F m H F' m H∧RelH K T F' m h' H∧aL K T F' m q x∧q.pure=true:=by
 by_cases hr:∃i,p=.ref i
 ·obtain⟨i,rfl⟩:=hr
  have e:(match h[i]? with
   |some (.lst xs)=>if aI xs=true then some (PV.lst xs,h.set i (.o9 (.lst xs)))else none
   |some (.dct _)=>none
   |some (.o9 p)=>some (p,h)
   |none=>none)=some (q,h'):=e
  cases r with
  |@ref _ a em=>
   cases z:h[i]? with
   |none=>rw[z]at e;cases e
   |some o=>
    rw[z]at e;have ob:=R.obj i o a z em
    cases o with
    |lst xs=>
     by_cases hp:aI xs=true
     ·simp only[hp,if_true,Option.some.injEq,Prod.mk.injEq]at e;obtain⟨rfl,rfl⟩:=e;obtain⟨f,vs,e1,rr⟩:=ob;have rl:aL K T (L2.upd F a (.lst vs)) m (.lst xs) (.ref a):=.lst aK (rr.mono (eQ f _) fun _ _ h=>h);have pp:(PV.lst xs).pure=true:=by simpa[PV.pure]using hp
      obtain⟨s,R'⟩:=DP R em f e1 pp rl;exact⟨_,s,R',rl,pp⟩
     ·simp[hp]at e
    |dct kvs=>cases e
    |o9 p=>simp only[Option.some.injEq,Prod.mk.injEq]at e;obtain⟨rfl,rfl⟩:=e;exact⟨F,.refl,R,ob.1,ob.2.1⟩
 ·have e':(if p.pure=true then some (p,h)else none)=some (q,h'):=by
   unfold cC at e
   split at e
   ·exact absurd ⟨_,rfl⟩ hr
   ·exact e
  by_cases hp:p.pure=true
  ·simp only[hp,if_true,Option.some.injEq,Prod.mk.injEq]at e';obtain⟨rfl,rfl⟩:=e';exact⟨F,.refl,R,r,hp⟩
  ·simp[hp]at e'
def Ms:List PV→List PO→Option (List PV×List PO)
 |[],h=>some ([],h)
 |p::r,h=>match cC h p with
  |some (q,h1)=>match Ms r h1 with
   |some (qs,h2)=>some (q::qs,h2)
   |none=>none
  |none=>none
end
theorem ou{K:W.Frag}{T:Tab}{m:List Addr}{H:Hp}:∀{ps qs:List PV}{xs:List V}{h h':List PO}{F:Hp},RelH K T F m h H→aq K T F m ps xs→Ms ps h=some (qs,h')→
  ∃F',bf F m H F' m H∧RelH K T F' m h' H∧aq K T F' m qs xs∧aI qs=true
 |[],qs,xs,h,h',F,R,r,e=>by simp only[Ms,Option.some.injEq,Prod.mk.injEq]at e;obtain⟨rfl,rfl⟩:=e;exact⟨F,.refl,R,r,by simp[aI]⟩
 |p::ps,qs,xs,h,h',F,R,r,e=>by
  cases r with
  |cons r1 r2=>
   unfold Ms at e
   cases z:cC h p with
   |none=>rw[z]at e;cases e
   |some a=>
    obtain⟨q,h1⟩:=a;rw[z]at e;dsimp only at e
    cases z2:Ms ps h1 with
    |none=>rw[z2]at e;cases e
    |some b=>obtain⟨qs2,h2⟩:=b;rw[z2]at e;simp only[Option.some.injEq,Prod.mk.injEq]at e;obtain⟨rfl,rfl⟩:=e;obtain⟨F1,s1,R1,ra,p1⟩:=jH R r1 z;obtain⟨F2,s2,R2,rb,p2⟩:=ou R1 (s1.reps r2) z2;exact⟨F2,s1.trans s2,R2,.cons (s2.rep ra) rb,by simp[aI,p1,p2]⟩
def qA(K:W.Frag)(T:Tab)(r:V→List V→Hp→VK→Prop)(g:PV→List PV→List PO→Res PV):Prop:=
 ∀F m h H x xs p ps Q Ew,RelH K T F m h H→aL K T F m p x→aq K T F m ps xs→aG K T (aL K T) F m H Q Ew (g p ps h)→r x xs H Q
def cM(recv:List PO→PV→Bool)(g:PV→List PV→List PO→Res PV)(o:Ex)(as:Ax):Ex:=fun ρ h=>(o ρ h).bind fun p h1=>if recv h1 p=true then(as ρ h1).bind fun ps h2=>g p ps h2 else .bad
noncomputable def jC(_:List PO):PV→Bool
 |.str _=>true
 |_=>false
def cz(h:List PO)(p:PV):Bool:=(Q9 h p).isSome
section
variable{X:Cx}{T:Tab}{Ew:VK}{o e:Expr}{es:List Expr}{fo:Ex}{fs:Ax}{name:Str}{apos G7:Pos}{id:String}{r:V→List V→Hp→VK→Prop}{g:PV→List PV→List PO→Res PV}
theorem zS{Ty:String}{recv:List PO→PV→Bool}(ty:∀F m h H p x,RelH X.K T F m h H→aL X.K T F m p x→recv h p=true→Vi X.K Ty x H)(pa:PlainAttrs Ty)(slot:Slot Ty name id)(Uu:typeOf (.builtin id)=pure (.type "method_descriptor"))(hm:VP X id r)(P:qA X.K T r g)
  (ho:RE X T Ew o fo) (ha:RA X T Ew (e::es) fs)
  (QM:attributeBase o name X.env (eval o X.env)=eval o X.env:=by rfl)
  (Vu:((backTo G7 (starEach (e::es) X.env)).all (fun x=>!x.1)&&(backToKw G7 (keywordEach [] X.env)).all (fun x=>x.1.isSome)
   &&decide ((e::es).length+([]:List Keyword).length+(if([]:List Keyword).isEmpty then 0 else 1)<30))=true:=by rfl)
  (hline:(apos.endLine==G7.line)=true:=by rfl)(hs:sE0 X e es:=by rfl) (SN:(backTo G7 (starEach es X.env)).any (·.1)=false:=by rfl):
  RE X T Ew (.Call (.Attribute o name apos) (e::es) [] G7) (cM recv g fo fs):=by with_unfolding_all
 refine PE.imp (IT pa slot Uu hm ho ha QM Vu hline hs SN) ?_;rintro σ H Q ⟨F,m,ρ,h,R,p⟩;refine⟨F,m,ρ,h,R,(aG.bind p).mono ?_⟩;rintro x H1 ⟨F1,m1,h1,p1,s1,R1,r1,w1⟩
 by_cases hr:recv h1 p1=true
 ·simp only[hr,if_true]at w1;refine⟨ty _ _ _ _ _ _ R1 r1 hr,F1,m1,ρ,h1,R.of s1 R1,(aG.bind w1).mono ?_⟩;rintro xs H2 ⟨F2,m2,h2,p2,s2,R2,r2,w2⟩;exact P F2 m2 h2 H2 x xs p1 p2 Q Ew R2 (s2.rep r1) r2 w2
 ·simp only[hr,if_false]at w1;exact w1.elim
theorem FW{Ty:String}{recv:List PO→PV→Bool}(ty:∀F m h H p x,RelH X.K T F m h H→aL X.K T F m p x→recv h p=true→Vi X.K Ty x H)(pa:PlainAttrs Ty)(slot:Slot Ty name id)(Uu:typeOf (.builtin id)=pure (.type "method_descriptor"))(hm:VP X id r)(P:qA X.K T r g)
  (ho:RE X T Ew o fo)
  (QM:attributeBase o name X.env (eval o X.env)=eval o X.env:=by rfl) (hline:(apos.endLine==G7.line)=true:=by rfl):
  RE X T Ew (.Call (.Attribute o name apos) [] [] G7) (cM recv g fo ag):=by with_unfolding_all
 refine PE.imp (GB pa slot Uu hm ho QM hline) ?_;rintro σ H Q ⟨F,m,ρ,h,R,p⟩;refine⟨F,m,ρ,h,R,(aG.bind p).mono ?_⟩;rintro x H1 ⟨F1,m1,h1,p1,s1,R1,r1,w1⟩
 by_cases hr:recv h1 p1=true
 ·simp only[hr,if_true]at w1;exact⟨ty _ _ _ _ _ _ R1 r1 hr,P F1 m1 h1 H1 x [] p1 [] Q Ew R1 r1 .nil w1⟩
 ·simp only[hr,if_false]at w1;exact w1.elim
theorem ud(F:Hp)(m:List Addr)(h:List PO)(H:Hp)(p:PV)(x:V)(R:RelH X.K T F m h H)(r:aL X.K T F m p x)(e:jC h p=true):Vi X.K "str" x H:=by
 cases r with
 |str y=>rfl
 |_=>simp[jC]at e
theorem Fd(F:Hp)(m:List Addr)(h:List PO)(H:Hp)(p:PV)(x:V)(R:RelH X.K T F m h H)(r:aL X.K T F m p x)(e:cz h p=true):Vi X.K "list" x H:=by unfold cz at e;obtain⟨xs,ex⟩:=Option.isSome_iff_exists.mp e;obtain⟨a,vs,rfl,sq,_⟩:=fO R r ex;exact .inl ⟨rfl,vs,sq⟩
noncomputable def kf(sep:List Nat):List (List Nat)→List Nat
 |[]=>[]
 |[x]=>x
 |x::rest=>x++sep++kf sep rest
theorem HD(sep:List Nat):∀xs:List (List Nat),Txt.join (S sep) (xs.map S)=S (kf sep xs):=by
 have go:∀xs:List (List Nat),Str.join (S sep) (xs.map S)=S (kf sep xs):=by
  intro xs
  induction xs with
  |nil=>rfl
  |cons x r ih=>
   cases r with
   |nil=>rfl
   |cons y r=>have e:kf sep (x::y::r)=x++sep++kf sep (y::r):=rfl;rw[e,← oQ,← oQ,← ih];rfl
 intro xs;show Builtin.Str.glued _ _=_;rw[StrLaws.glued_eq_join];exact go xs
noncomputable def jm:List PV→Option (List (List Nat))
 |[]=>some []
 |.str l::r=>(jm r).map (l:: ·)
 |_::_=>none
theorem nu:∀{ps:List PV}{ls:List (List Nat)},jm ps=some ls→ps=ls.map PV.str
 |[],ls,e=>by simp[jm]at e;subst e;rfl
 |p::r,ls,e=>by
  cases p with
  |str l=>simp only[jm,Option.map_eq_some_iff]at e;obtain⟨ls',e1,rfl⟩:=e;rw[nu e1];rfl
  |_=>simp[jm]at e
theorem xJ(ls:List (List Nat)):jm (ls.map PV.str)=some ls:=by
 induction ls with
 |nil=>rfl
 |cons l r ih=>simp[jm,ih]
theorem pG{K:W.Frag}{F:Hp}{m:List Addr}:∀{ls:List (List Nat)}{vs:List V},aq K T F m (ls.map PV.str) vs→vs=(ls.map S).map V.str
 |[],_,.nil=>rfl
 |l::r,_,.cons h t=>by cases h;rw[pG t];rfl
def ie(p:PV)(ps:List PV)(h:List PO):Res PV:=match p,ps with
 |.str sep,[q]=>match Q9 h q with
  |some xs=>match jm xs with
   |some ls=>if(ls.map (·.length)).sum+ls.length * sep.length≤16777216 then .ok (.str (kf sep ls)) h else .bad
   |none=>.bad
  |none=>.bad
 |_,_=>.bad
theorem ya{K:W.Frag}:qA K T (EC K) ie:=by
 intro F m h H x xs p ps Q Ew R rp rs w;unfold ie at w
 split at w
 ·rename_i sep q
  cases rp
  obtain⟨y,rfl,ry⟩:=rs.one
  split at w
  ·rename_i zs ez
   split at w
   ·rename_i ls el
    split at w
    ·rename_i hz;obtain⟨a,vs,rfl,sq,rr⟩:=fO R ry ez;have e1:=nu el;subst e1;rw[pG rr]at sq;refine⟨_,a,ls.map S,rfl,rfl,sq,?_,by rw[HD];exact aS w R (.str _)⟩
     have e2:(ls.map S).map (·.length)=ls.map (·.length):=by rw[List.map_map];apply List.map_congr_left;intro l _;exact fj l
     rw[e2,List.length_map,fj];exact hz
    ·exact w.elim
   ·exact w.elim
  ·exact w.elim
 ·exact w.elim
def wF(p:PV)(ps:List PV)(h:List PO):Res PV:=match p,ps with
 |.str x,[.str y]=>.ok (.int (ES (cD y x 0))) h
 |_,_=>.bad
theorem yb{K:W.Frag}:qA K T (fun x xs H Q=>∃z y,x=.str z∧xs= [.str y]∧Q (.int (Txt.find z y)) H) wF:=by
 intro F m h H x xs p ps Q Ew R rp rs w;unfold wF at w
 split at w
 ·cases rp
  obtain⟨y,rfl,ry⟩:=rs.one
  cases ry
  exact⟨_,_,rfl,rfl,by rw[HE];exact aS w R (.int _)⟩
 ·exact w.elim
def ba(p:PV)(ps:List PV)(h:List PO):Res PV:=match ps with
 |[q]=>match sX h p with
  |some (i,xs)=>if xs.length<sizeLine then .ok .non (h.set i (.lst (xs++ [q])))else .bad
  |none=>.bad
 |_=>.bad
theorem sH{K:W.Frag}:qA K T wo ba:=by
 intro F m h H x xs p ps Q Ew R rp rs w;unfold ba at w
 split at w
 ·obtain⟨y,rfl,ry⟩:=rs.one
  split at w
  ·rename_i i zs el
   split at w
   ·rename_i hz;obtain⟨a,vs,rfl,em,hF,hH,rr⟩:=pU R rp el;exact⟨a,vs,y,rfl,rfl,hH,by rw[← rr.length];exact hz,Al w R em hF hH (rr.append (.cons ry .nil)) .non⟩
   ·exact w.elim
  ·exact w.elim
 ·exact w.elim
end
structure rP(K:W.Frag)(T:Tab)(J:It)(xs:List PV)(F:Hp)(m:List Addr)(H:Hp):Prop where
 go:∀(i:Nat) F1 m1 h1 H1,bf F m H F1 m1 H1→RelH K T F1 m1 h1 H1→i<xs.length→J.go i H1
 Vf:∀(i:Nat) F1 m1 h1 H1 v H2,bf F m H F1 m1 H1→RelH K T F1 m1 h1 H1→i<xs.length→J.Vf i H1 v H2→∃F2 m2 p,bf F1 m1 H1 F2 m2 H2∧RelH K T F2 m2 h1 H2∧xs[i]? =some p∧aL K T F2 m2 p v
 stop:∀F1 m1 h1 H1,bf F m H F1 m1 H1→RelH K T F1 m1 h1 H1→J.stop xs.length H1
@[irreducible] def RI(X:Cx)(T:Tab)(Ew:VK)(tg e:Expr)(f:Ax):Prop:=PI X tg e (fun σ H R=>∃F m ρ h,gZ X.K T F m ρ h σ H∧aG X.K T (fun F m xs J=>∀H,rP X.K T J xs F m H) F m H R Ew (f ρ h))
section
variable{K:W.Frag}{T:Tab}{F H:Hp}{m:List Addr}
theorem DN(lo:Int)(n:Nat):rP K T (X_ lo n) ((List.range n).map fun i=>PV.int (lo+(i:Nat))) F m H:=by
 refine⟨fun i F1 m1 h1 H1 s R hi=>by show i<n;simpa using hi,fun i F1 m1 h1 H1 v H2 s R hi y=>?_,fun F1 m1 h1 H1 s R=>by show n≤_;simp⟩;obtain⟨rfl,rfl⟩:=y;have R6:i<n:=by simpa using hi
 exact⟨F1,m1,_,.refl,R,by simp[R6],.int _⟩
theorem DM(l:List Nat):rP K T (Its (S l)) (l.map fun c=>PV.str [c]) F m H:=by
 refine⟨fun i F1 m1 h1 H1 s R hi=>by show i<(S l).cps.size;simpa[S]using hi,fun i F1 m1 h1 H1 v H2 s R hi y=>?_,fun F1 m1 h1 H1 s R=>by show _=(S l).cps.size;simp[S]⟩;obtain⟨rfl,c,hc,rfl⟩:=y;have Vv:l[i]? =some c:=by simpa[S]using hc
 exact⟨F1,m1,_,.refl,R,by simp[Vv],.str [c]⟩
theorem qW{a:Addr}{xs:List PV}{vs:List V}(e:Mq K F a vs)(r:aq K T F m xs vs):rP K T (Zq K a) xs F m H:=by
 have at':∀{F1:Hp}{m1:List Addr}{h1:List PO}{H1:Hp},bf F m H F1 m1 H1→RelH K T F1 m1 h1 H1→Mq K H1 a vs:=fun s R=>R.same.seq (s.fz.seq e);refine⟨fun i F1 m1 h1 H1 s R hi=>?_,fun i F1 m1 h1 H1 v H2 s R hi y=>?_,fun F1 m1 h1 H1 s R=>⟨vs,at' s R,by rw[r.length];exact Nat.le_refl _⟩⟩
 ·rw[r.length]at hi;exact⟨vs,vs[i],at' s R,List.getElem?_eq_getElem hi⟩
 ·obtain⟨rfl,y⟩:=y;obtain⟨v',h1,h2⟩:=r.get (List.getElem?_eq_getElem hi);have:=y vs (at' s R);rw[h1]at this;cases this;exact⟨F1,m1,_,.refl,R,List.getElem?_eq_getElem hi,s.rep h2⟩
theorem DL{a:Addr}{xs:List PV}{vs:List V}(e:Nf K F a vs)(r:aq K T F m xs vs):rP K T (Zo K a) xs F m H:=by
 have at':∀{F1:Hp}{m1:List Addr}{h1:List PO}{H1:Hp},bf F m H F1 m1 H1→RelH K T F1 m1 h1 H1→Nf K H1 a vs:=fun s R=>R.same.O9 (s.fz.O9 e);refine⟨fun i F1 m1 h1 H1 s R hi=>?_,fun i F1 m1 h1 H1 v H2 s R hi y=>?_,fun F1 m1 h1 H1 s R=>⟨vs,at' s R,by rw[r.length];exact Nat.le_refl _⟩⟩
 ·rw[r.length]at hi;exact⟨vs,vs[i],at' s R,List.getElem?_eq_getElem hi⟩
 ·obtain⟨rfl,y⟩:=y;obtain⟨v',h1,h2⟩:=r.get (List.getElem?_eq_getElem hi);have:=y vs (at' s R);rw[h1]at this;cases this;exact⟨F1,m1,_,.refl,R,List.getElem?_eq_getElem hi,s.rep h2⟩
end
section
variable{X:Cx}{T:Tab}{Ew:VK}{tg a b:Expr}{fa fb:Ex}{pos p0:Pos}
def bD(f:Ax):Ax:=fun ρ h=>(f ρ h).bind fun ps h1=>match ps with
 |[.int j]=>if Rv 4611686018427387904 j=true then .ok ((List.range j.toNat).map fun i=>PV.int (0+(i:Nat))) h1 else .bad
 |_=>.bad
theorem xW{f:Ax}(hg:Gl X "range")(hm:X.mg "range"=none)(ha:RA X T Ew [a] f)(hs:starEach [a] X.env= [(false,eval a X.env)]:=by rfl):RI X T Ew tg (.Call (.Name "range" p0) [a] [] pos) (bD f):=by with_unfolding_all
 intro pins s σ H R I ⟨F,m,ρ,h,RR,p⟩;refine yf hg hm ha hs pins s σ H R I ⟨F,m,ρ,h,RR,(aG.bind p).mono ?_⟩;rintro xs H1 ⟨F1,m1,h1,ps,s1,R1,r1,w1⟩
 split at w1
 ·rename_i j;obtain⟨x,rfl,rx⟩:=r1.one
  cases rx
  split at w1
  ·rename_i hz;have Yw:=du.mp hz;exact⟨j,rfl,by omega,by omega,aG.here w1 R1 fun H=>DN 0 _⟩
  ·exact w1.elim
 ·exact w1.elim
def ju(p:PV)(h:List PO):Res (List PV):=match p with
 |.str l=>.ok (l.map fun c=>PV.str [c]) h
 |.tup xs=>.ok xs h
 |.lst xs=>.ok xs h
 |.Mv xs=>.ok xs h
 |p=>match cC h p with
  |some (.lst xs,h2)=>.ok xs h2
  |_=>.bad
def eY(f:Ex):Ax:=fun ρ h=>(f ρ h).bind ju
theorem zG(ha:RE X T Ew a fa):RI X T Ew tg a (eY fa):=by with_unfolding_all
 intro pins s σ H R I ⟨F,m,ρ,h,RR,p⟩;unfold eY at p
 have lst:(∀p1 h1,fa ρ h=.ok p1 h1→(∀l,p1≠.str l)∧(∀l,p1≠.tup l))→wpAny (model X.prog X.w) X.A (eval a X.env) (fun v s1=>wpAny (model X.prog X.w) X.A (pyIter v) (PIE X pins σ tg R) X.xe s1) X.xe s:=fun YB=>by
  refine Dc ha pins s σ H R I ⟨F,m,ρ,h,RR,?_⟩
  cases q:fa ρ h with
  |bad=>rw[q]at p;exact p
  |exc e h'=>rw[q]at p;exact p
  |ok p1 h1=>
   obtain⟨n1,n2⟩:=YB p1 h1 q;rw[q]at p;intro F1 m1 H1 x s1 R1 r1;have w1:=aG.step s1 (show aG X.K T _ F m H R Ew (ju p1 h1)from p);unfold ju at w1
   split at w1
   ·exact absurd rfl (n1 _)
   ·exact absurd rfl (n2 _)
   ·cases r1 with
    |lst ef rr=>exact⟨_,rfl,⟨_,Mq.of (R1.same _ _ ef)⟩,aG.here w1 R1 fun H=>qW (Mq.of ef) rr⟩
   ·cases r1 with
    |Mv ef rr=>exact⟨_,rfl,⟨_,R1.same.seq ef⟩,aG.here w1 R1 fun H=>qW ef rr⟩
   ·split at w1
    ·rename_i xs h2 ef;obtain⟨F2,s2,R2,r2,_⟩:=jH R1 r1 ef
     cases r2 with
     |lst ef rr=>exact⟨_,rfl,⟨_,Mq.of (R2.same _ _ ef)⟩,w1 F2 m1 H1 _ s2 R2 fun H=>qW (Mq.of ef) rr⟩
    ·exact w1.elim
 cases q:fa ρ h with
 |bad=>rw[q]at p;exact p.elim
 |exc e h'=>exact lst fun p1 h1 z=>by rw[q]at z;cases z
 |ok p1 h1=>
  by_cases S6:∃l,p1=.str l
  ·obtain⟨l,rfl⟩:=S6;refine Gn ha pins s σ H R I ⟨F,m,ρ,h,RR,?_⟩;rw[q]at p ⊢;intro F1 m1 H1 x s1 R1 r1;have w1:=aG.step s1 (show aG X.K T _ F m H R Ew (ju (.str l) h1)from p)
   cases r1
   exact⟨_,rfl,aG.here w1 R1 fun H=>DM l⟩
  ·by_cases Tv:∃l,p1=.tup l
   ·obtain⟨l,rfl⟩:=Tv;refine Gm ha pins s σ H R I ⟨F,m,ρ,h,RR,?_⟩;rw[q]at p ⊢;intro F1 m1 H1 x s1 R1 r1;have w1:=aG.step s1 (show aG X.K T _ F m H R Ew (ju (.tup l) h1)from p)
    cases r1 with
    |tup ef rr=>exact⟨_,rfl,⟨_,R1.same.O9 ef⟩,aG.here w1 R1 fun H=>DL ef rr⟩
   ·exact lst fun p2 h2 z=>by rw[q]at z;cases z;exact⟨fun l z=>S6 ⟨l,z⟩,fun l z=>Tv ⟨l,z⟩⟩
noncomputable def dL(j6:List Nat)(ρ:Ev):Ev:=j6.map fun i=>(ρ[i]?).getD none
def be(tt:Tx)(te:Ex)(cp:Ev):List PV→List PO→Res (List PV)
 |[],h=>.ok [] h
 |p::r,h=>(tt (some p::cp) h).bind fun b h1=>if b=true then(te (some p::cp) h1).bind fun v h2=>(be tt te cp r h2).bind fun vs h3=>.ok (v::vs) h3 else be tt te cp r h1
def bG(j6:List Nat)(it:Ax)(tt:Tx)(te:Ex):Ax:=fun ρ h=>(it ρ h).bind fun xs h1=>if xs.length<sizeLine then be tt te (dL j6 ρ) xs h1 else .bad
@[irreducible] def Wc(X:Cx)(T:Tab)(Ew:VK)(ifs:List Expr)(f:Tx):Prop:=Xf X ifs (wT X T Ew f)
noncomputable def bX:Tx:=fun _ h=>.ok true h
theorem FE:Wc X T Ew [] bX:=by with_unfolding_all exact(
  (by rintro pins s σ H Q I ⟨F,m,ρ,h,R,p⟩;exact Gr pins s σ H Q I (aG.here p R.toRelH rfl)))
theorem FD{c:Expr}{f:Tx}(h:RT X T Ew c f):Wc X T Ew [c] f:=by with_unfolding_all exact(
  Gq h)
theorem lU.cap{K:W.Frag}{F:Hp}{m:List Addr}{ρ:Ev}{σ:St}(r:lU K T F m ρ σ)(j6:List Nat){p:PV}{v:V}(rp:aL K T F m p v):lU K T F m (some p::dL j6 ρ) (some v::im j6 σ):=by
 refine⟨by simp[dL,im],fun i q e=>?_⟩
 cases i with
 |zero=>simp at e;subst e;exact⟨v,rfl,rp⟩
 |succ j=>
  simp only[List.getElem?_cons_succ,dL,im,List.getElem?_map]at e ⊢
  cases z:j6[j]? with
  |none=>rw[z]at e;simp at e
  |some k=>
   rw[z]at e;simp only[Option.map_some,Option.some.injEq]at e ⊢
   have e':ρ[k]? =some (some q):=by
    cases y:ρ[k]? with
    |none=>rw[y]at e;cases e
    |some o=>rw[y]at e;simpa using e
   obtain⟨u,h1,h2⟩:=r.2 k q e';exact⟨u,by rw[h1];rfl,h2⟩
theorem lM{j6:List Nat}{it:Ax}{tt:Tx}{te:Ex}{σ:St}{H:Hp}{Q:VK}{g:List PV→List PO→Res PV}(hg:∀F m h H ps vs,RelH X.K T F m h H→aq X.K T F m ps vs→aG X.K T (aL X.K T) F m H Q Ew (g ps h)→∀D,H D=none→Q (.ref D) (upd H D (.lst vs)))
  (w:wE X T Ew (cN g (bG j6 it tt te)) σ H Q):zj j6 (fun σ H R=>∃F m ρ h,gZ X.K T F m ρ h σ H∧aG X.K T (fun F m xs J=>∀H,rP X.K T J xs F m H) F m H R Ew (it ρ h)) (wT X T Ew tt) (wE X T Ew te) σ H Q:=by
 obtain⟨F,m,ρ,h,R,p⟩:=w
 have p0:aG X.K T (aL X.K T) F m H Q Ew ((it ρ h).bind fun xs h1=>(if xs.length<sizeLine then be tt te (dL j6 ρ) xs h1 else .bad).bind g):=by
  have:(bG j6 it tt te ρ h).bind g=(it ρ h).bind fun xs h1=>(if xs.length<sizeLine then be tt te (dL j6 ρ) xs h1 else .bad).bind g:=by
   unfold bG
   cases it ρ h<;>rfl
  rw[← this];exact p
 refine⟨F,m,ρ,h,R,(aG.bind p0).mono ?_⟩;rintro J H1 ⟨F1,m1,h1,xs,s1,R1,G,w1⟩
 by_cases hz:xs.length<sizeLine
 ·rw[if_pos hz]at w1
  refine⟨fun i n acc H2=>n=xs.length - i∧i≤xs.length∧acc.length≤i∧∃F2 m2 h2 as,bf F1 m1 H1 F2 m2 H2∧RelH X.K T F2 m2 h2 H2∧aq X.K T F2 m2 as acc∧
   aG X.K T (aL X.K T) F2 m2 H2 Q Ew (((be tt te (dL j6 ρ) (xs.drop i) h2).bind fun vs h3=>g (as++vs) h3)),⟨_,rfl,Nat.zero_le _,Nat.le_refl _,F1,m1,h1,[],.refl,R1,.nil,by simpa using w1⟩,?_⟩
  rintro i n acc H2 ⟨rfl,hi,hac,F2,m2,h2,as,s2,R2,ra,w2⟩
  rcases Nat.lt_or_ge i xs.length with QZ|XD
  ·right
   refine⟨(G H1).go i F2 m2 h2 H2 s2 R2 QZ,by omega,fun v H3 y=>?_⟩;obtain⟨F3,m3,p,s3,R3,ep,rp⟩:=(G H1).Vf i F2 m2 h2 H2 v H3 s2 R2 QZ y
   have ed:xs.drop i=p::xs.drop (i+1):=by rw[List.drop_eq_getElem_cons QZ];rw[List.getElem?_eq_getElem QZ,Option.some.injEq]at ep;rw[ep]
   rw[ed]at w2;have w3:=aG.step s3 w2;have eE:lU X.K T F3 m3 (some p::dL j6 ρ) (some v::im j6 σ):=(s3.env (s2.env (s1.env R.env))).cap j6 rp
   have e0:((be tt te (dL j6 ρ) (p::xs.drop (i+1)) h2).bind fun vs h3=>g (as++vs) h3)=(tt (some p::dL j6 ρ) h2).bind fun b h1=>
     if b=true then(te (some p::dL j6 ρ) h1).bind fun v h2=>(be tt te (dL j6 ρ) (xs.drop (i+1)) h2).bind fun vs h3=>g (as++v::vs) h3 else(be tt te (dL j6 ρ) (xs.drop (i+1)) h1).bind fun vs h3=>g (as++vs) h3:=by
    rw[be]
    cases tt (some p::dL j6 ρ) h2 with
    |bad=>rfl
    |exc e h=>rfl
    |ok b h1=>
     cases b with
     |false=>rfl
     |true=>
      simp only[Res.G4,if_true]
      cases te (some p::dL j6 ρ) h1 with
      |bad=>rfl
      |exc e h=>rfl
      |ok v h4=>
       simp only[Res.G4]
       cases be tt te (dL j6 ρ) (xs.drop (i+1)) h4<;>rfl
   rw[e0]at w3;refine⟨F3,m3,_,h2,⟨R3,eE⟩,(aG.bind w3).mono ?_⟩;rintro b H4 ⟨F4,m4,h4,b',s4,R4,eb,w4⟩
   cases eb
   have Xp:bf F1 m1 H1 F4 m4 H4:=(s2.trans s3).trans s4
   cases b with
   |false=>refine uZ ⟨xs.length - (i+1),by omega,rfl,by omega,by omega,F4,m4,h4,as,Xp,R4,s4.reps (s3.reps ra),?_⟩;simpa using w4
   |true=>
    simp only[if_true]at w4;refine uY ⟨F4,m4,_,h4,⟨R4,s4.env eE⟩,(aG.bind w4).mono ?_⟩;rintro y H5 ⟨F5,m5,h5,q,s5,R5,rq,w5⟩;refine⟨xs.length - (i+1),by omega,rfl,by omega,by rw[List.length_append];simp;omega,F5,m5,h5,as++ [q],Xp.trans s5,R5,(s5.reps (s4.reps (s3.reps ra))).append (.cons rq .nil),?_⟩;have:(fun vs h3=>g (as++ [q]++vs) h3)=fun vs h3=>g (as++q::vs) h3:=by funext vs h3;simp
    rw[this];exact w5
  ·left
   have e:i=xs.length:=by omega
   subst e;refine⟨(G H1).stop F2 m2 h2 H2 s2 R2,fun D hD=>?_⟩;rw[List.drop_length]at w2;have w3:aG X.K T (aL X.K T) F2 m2 H2 Q Ew (g as h2):=by simpa[be]using w2
   exact hg F2 m2 h2 H2 as acc R2 ra w3 D hD
 ·rw[if_neg hz]at w1;exact w1.elim
noncomputable def QH(ps:List PV)(h:List PO):Res PV:=.ok (.lst ps) h
noncomputable def lg(ps:List PV)(h:List PO):Res PV:=.ok (.ref h.length) (h++ [.lst ps])
theorem cO{elt iter:Expr}{x:Str}{px:Pos}{ifs:List Expr}{scope:Scope}{it:Ax}{tt:Tx}{te:Ex}{M:List Str}(j6:List Nat)(NP:X.calm=true)(S:hG X.N X.env.scope scope j6 x M)
  (hi:RI X T Ew (.Name x px) iter it) (ht:∀cl C ex s H,Wc (dF X M scope cl C ex s H) T Ew ifs tt) (he:∀cl C ex s H,RE (dF X M scope cl C ex s H) T Ew elt te)
  (hs:∀y,foldedSetIterable iter X.env y=pure y:=by intro _;rfl):RE X T Ew (.ListComp elt [⟨.Name x px,iter,ifs,0⟩] scope pos) (cN QH (bG j6 it tt te)):=by with_unfolding_all exact(
 PE.imp (wD (tt:=wT X T Ew tt) (te:=wE X T Ew te) j6 NP S hi ht he hs) fun σ H Q w=>lM (fun F m h H ps vs R r w D hD=>eR w R r D hD) w)
theorem sC{elt iter:Expr}{x:Str}{px:Pos}{ifs:List Expr}{scope:Scope}{it:Ax}{tt:Tx}{te:Ex}{M:List Str}(j6:List Nat)(NP:X.calm=true)(S:hG X.N X.env.scope scope j6 x M)
  (hi:RI X T Ew (.Name x px) iter it) (ht:∀cl C ex s H,Wc (dF X M scope cl C ex s H) T Ew ifs tt) (he:∀cl C ex s H,RE (dF X M scope cl C ex s H) T Ew elt te)
  (hs:∀y,foldedSetIterable iter X.env y=pure y:=by intro _;rfl):RE X T Ew (.ListComp elt [⟨.Name x px,iter,ifs,0⟩] scope pos) (cN lg (bG j6 it tt te)):=by with_unfolding_all exact(
 PE.imp (wD (tt:=wT X T Ew tt) (te:=wE X T Ew te) j6 NP S hi ht he hs) fun σ H Q w=>lM (fun F m h H ps vs R r w D hD=>kX w R r D hD) w)
end
inductive SR where
 |nx (ρ:Ev) (h:List PO)|rt (v:PV) (h:List PO)|bk (ρ:Ev) (h:List PO)|ct (ρ:Ev) (h:List PO)|exc (e:PV) (h:List PO)|bad
abbrev Sx:=Ev→List PO→SR
def ff(K:W.Frag)(T:Tab)(F:Hp)(m:List Addr)(H:Hp)(D:pd)(Ew:VK):SR→Prop
 |.nx ρ h=>∀F' m' H' σ',bf F m H F' m' H'→gZ K T F' m' ρ h σ' H'→D.nx σ' H'
 |.bk ρ h=>∀F' m' H' σ',bf F m H F' m' H'→gZ K T F' m' ρ h σ' H'→D.bk σ' H'
 |.ct ρ h=>∀F' m' H' σ',bf F m H F' m' H'→gZ K T F' m' ρ h σ' H'→D.ct σ' H'
 |.rt v h=>∀F' m' H' x,bf F m H F' m' H'→RelH K T F' m' h H'→aL K T F' m' v x→D.rt x H'
 |.exc v h=>∀F' m' H' x,bf F m H F' m' H'→RelH K T F' m' h H'→aL K T F' m' v x→Ew x H'
 |.bad=>False
theorem ff.step{K:W.Frag}{T:Tab}{F F1 H H1:Hp}{m m1:List Addr}{D:pd}{Ew:VK}{r:SR}(s:bf F m H F1 m1 H1)(p:ff K T F m H D Ew r):ff K T F1 m1 H1 D Ew r:=by
 cases r with
 |nx ρ h=>exact fun F' m' H' x t=>p F' m' H' x (s.trans t)
 |bk ρ h=>exact fun F' m' H' x t=>p F' m' H' x (s.trans t)
 |ct ρ h=>exact fun F' m' H' x t=>p F' m' H' x (s.trans t)
 |rt v h=>exact fun F' m' H' x t=>p F' m' H' x (s.trans t)
 |exc v h=>exact fun F' m' H' x t=>p F' m' H' x (s.trans t)
 |bad=>exact p
section
variable(X:Cx)(T:Tab)(Ew:VK)
noncomputable def wS(f:Sx):TS:=fun D σ H=>∃F m ρ h,gZ X.K T F m ρ h σ H∧ff X.K T F m H D Ew (f ρ h)
@[irreducible] def RS(st:Stmt)(f:Sx):Prop:=PS X st (wS X T Ew f)
@[irreducible] def Tj(st:List Stmt)(f:Sx):Prop:=RK X st (wS X T Ew f)
end
noncomputable def aW:Sx:=fun ρ h=>.nx ρ h
noncomputable def ak(f g:Sx):Sx:=fun ρ h=>match f ρ h with
 |.nx ρ1 h1=>g ρ1 h1
 |.rt v h1=>.rt v h1
 |.bk ρ1 h1=>.bk ρ1 h1
 |.ct ρ1 h1=>.ct ρ1 h1
 |.exc v h1=>.exc v h1
 |.bad=>.bad
noncomputable def dq(f:Res PV)(k:PV→List PO→SR):SR:=match f with
 |.ok v h=>k v h
 |.exc e h=>.exc e h
 |.bad=>.bad
noncomputable def tV(f:Res Bool)(k:Bool→List PO→SR):SR:=match f with
 |.ok v h=>k v h
 |.exc e h=>.exc e h
 |.bad=>.bad
noncomputable def sZ(f:Res (List PV))(k:List PV→List PO→SR):SR:=match f with
 |.ok v h=>k v h
 |.exc e h=>.exc e h
 |.bad=>.bad
@[simp] theorem JC(v:PV)(h:List PO)(k:PV→List PO→SR):dq (.ok v h) k=k v h:=rfl
@[simp] theorem JJ(v:Bool)(h:List PO)(k:Bool→List PO→SR):tV (.ok v h) k=k v h:=rfl
@[simp] theorem Ji(v:List PV)(h:List PO)(k:List PV→List PO→SR):sZ (.ok v h) k=k v h:=rfl
@[simp] theorem HJ(k:PV→List PO→SR):dq .bad k=.bad:=rfl
@[simp] theorem HK(k:Bool→List PO→SR):tV .bad k=.bad:=rfl
@[simp] theorem HH(k:List PV→List PO→SR):sZ .bad k=.bad:=rfl
noncomputable def aP(f:Ex):Sx:=fun ρ h=>dq (f ρ h) fun v h1=>.rt v h1
def bY(f:Ex):Sx:=fun ρ h=>dq (f ρ h) fun _ h1=>.nx ρ h1
def v9(t:Tx)(f g:Sx):Sx:=fun ρ h=>tV (t ρ h) fun b h1=>if b=true then f ρ h1 else g ρ h1
def aC(i:Nat)(f:Ex):Sx:=fun ρ h=>dq (f ρ h) fun v h1=>.nx (ρ.set i (some v)) h1
noncomputable def zv:Sx:=fun _ _=>.bad
section
variable{X:Cx}{T:Tab}{Ew:VK}{a b c:Expr}{fa fb:Ex}{pos:Pos}{st:Stmt}{rest:List Stmt}{f g:Sx}
theorem ge{K:W.Frag}{F H:Hp}{m:List Addr}{D:pd}{r:Res PV}{k:PV→List PO→SR}(p:ff K T F m H D Ew (dq r k)):aG K T (aL K T) F m H (fun x H1=>∃F1 m1 h1 a,bf F m H F1 m1 H1∧RelH K T F1 m1 h1 H1∧aL K T F1 m1 a x∧ff K T F1 m1 H1 D Ew (k a h1)) Ew r:=by
 cases r with
 |ok a h=>exact fun F' m' H' x s r q=>⟨F',m',h,a,s,r,q,ff.step s p⟩
 |exc e h=>exact p
 |bad=>exact p
theorem Gj{K:W.Frag}{F H:Hp}{m:List Addr}{D:pd}{r:Res Bool}{k:Bool→List PO→SR}(p:ff K T F m H D Ew (tV r k)):aG K T RB F m H (fun x H1=>∃F1 m1 h1,bf F m H F1 m1 H1∧RelH K T F1 m1 h1 H1∧ff K T F1 m1 H1 D Ew (k x h1)) Ew r:=by
 cases r with
 |ok a h=>exact fun F' m' H' x s r q=>by cases q;exact⟨F',m',h,s,r,ff.step s p⟩
 |exc e h=>exact p
 |bad=>exact p
theorem Gi{K:W.Frag}{F H:Hp}{m:List Addr}{D:pd}{β:Type}{RR:Hp→List Addr→List PV→β→Prop}{r:Res (List PV)}{k:List PV→List PO→SR}(p:ff K T F m H D Ew (sZ r k)):aG K T RR F m H (fun x H1=>∃F1 m1 h1 a,bf F m H F1 m1 H1∧RelH K T F1 m1 h1 H1∧RR F1 m1 a x∧ff K T F1 m1 H1 D Ew (k a h1)) Ew r:=by
 cases r with
 |ok a h=>exact fun F' m' H' x s r q=>⟨F',m',h,a,s,r,q,ff.step s p⟩
 |exc e h=>exact p
 |bad=>exact p
theorem Ci:Tj X T Ew [] aW:=by with_unfolding_all exact(
  RK.imp CO (by rintro D σ H ⟨F,m,ρ,h,R,p⟩;exact p F m H σ .refl R))
theorem wj(h:RS X T Ew st f):Tj X T Ew [st] f:=by with_unfolding_all exact(
  CN h)
theorem zy(h1:RS X T Ew st f)(h2:Tj X T Ew rest g):Tj X T Ew (st::rest) (ak f g):=by with_unfolding_all
 refine RK.imp (Aa h1 h2) ?_;rintro D σ H ⟨F,m,ρ,h,R,p⟩;refine⟨F,m,ρ,h,R,?_⟩
 unfold ak at p
 cases q:f ρ h with
 |nx ρ1 h1=>rw[q]at p;exact fun F' m' H' σ' s R'=>⟨F',m',ρ1,h1,R',ff.step s p⟩
 |rt v h1=>rw[q]at p;exact p
 |bk v h1=>rw[q]at p;exact p
 |ct v h1=>rw[q]at p;exact p
 |exc v h1=>rw[q]at p;exact p
 |bad=>rw[q]at p;exact p
theorem zD:RS X T Ew st zv:=by with_unfolding_all exact(
  PS.imp Ab (by rintro D σ H ⟨F,m,ρ,h,R,p⟩;exact p.elim))
theorem Fy(ha:RE X T Ew a fa):RS X T Ew (.Return (some a) pos) (aP fa):=by with_unfolding_all exact(
 PS.imp (Gg ha) (by rintro D σ H ⟨F,m,ρ,h,R,p⟩;exact ⟨F,m,ρ,h,R,(ge p).mono (by rintro x H1 ⟨F1,m1,h1,v,s1,R1,r1,w1⟩;exact w1 F1 m1 H1 x .refl R1 r1)⟩))
theorem Ck(ha:RE X T Ew a fa)(hs:swapsWith a none pos.line X.env=pure false:=by rfl):RS X T Ew (.Expr a pos) (bY fa):=by with_unfolding_all exact(
 PS.imp (CP ha hs) (by rintro D σ H ⟨F,m,ρ,h,R,p⟩;exact ⟨F,m,ρ,h,R,(ge p).mono (by rintro x H1 ⟨F1,m1,h1,v,s1,R1,r1,w1⟩;exact w1 F1 m1 H1 σ .refl (R.of s1 R1))⟩))
theorem Ir{t:Tx}{sa sb:List Stmt}(hc:RT X T Ew c t)(ha:Tj X T Ew sa f)(hb:Tj X T Ew sb g):RS X T Ew (.If c sa sb pos) (v9 t f g):=by with_unfolding_all
 refine PS.imp (IM hc ha hb) ?_;rintro D σ H ⟨F,m,ρ,h,R,p⟩;refine⟨F,m,ρ,h,R,(Gj p).mono ?_⟩;rintro x H1 ⟨F1,m1,h1,s1,R1,w1⟩
 cases x with
 |true=>exact uY ⟨F1,m1,ρ,h1,R.of s1 R1,w1⟩
 |false=>exact uZ ⟨F1,m1,ρ,h1,R.of s1 R1,w1⟩
theorem lU.set{K:W.Frag}{F:Hp}{m:List Addr}{ρ:Ev}{σ:St}(r:lU K T F m ρ σ)(i:Nat){p:PV}{v:V}(rp:aL K T F m p v):lU K T F m (ρ.set i (some p)) (σ.set i (some v)):=by
 refine⟨by simp[r.1],fun j q e=>?_⟩
 by_cases hj:i=j
 ·subst hj
  have hi:i<ρ.length:=by
   rcases Nat.lt_or_ge i ρ.length with z|z
   ·exact z
   ·rw[List.getElem?_eq_none (by simpa using z)]at e;cases e
  rw[List.getElem?_set_self hi]at e
  cases e
  exact⟨v,List.getElem?_set_self (by rw[← r.1];exact hi),rp⟩
 ·rw[List.getElem?_set_ne hj]at e ⊢;exact r.2 j q e
theorem Fv{i:Nat}{x:Str}{pos':Pos}(hN:X.N.Nodup)(hi:X.N[i]? =some x)(hx:Loc X.env.scope x)(ha:RE X T Ew a fa)(hs:swapsWith a (some (.Name x pos')) pos.line X.env=pure false:=by rfl)(hf:X.fn x=true∨X.env.scope.names.lookup x=some .local:=by first|exact .inl rfl|exact .inr rfl|assumption):
  RS X T Ew (.Assign [.Name x pos'] a pos) (aC i fa):=by with_unfolding_all exact(
 PS.imp (Gf hN hi hx ha hs hf) (by rintro D σ H ⟨F,m,ρ,h,R,p⟩;exact ⟨F,m,ρ,h,R,(ge p).mono (by rintro v H1 ⟨F1,m1,h1,q,s1,R1,r1,w1⟩;exact w1 F1 m1 H1 _ .refl ⟨R1,(s1.env R.env).set i r1⟩)⟩))
abbrev Gx:=PV→Ev→Option Ev
@[irreducible] def RG(X:Cx)(T:Tab)(tg:Expr)(g:Gx):Prop:=PG X tg (fun v σ H Q=>∃F m ρ h p ρ',gZ X.K T F m ρ h σ H∧aL X.K T F m p v∧g p ρ=some ρ'∧∀ σ',lU X.K T F m ρ' σ'→Q σ' H)
noncomputable def n8(i:Nat):Gx:=fun p ρ=>some (ρ.set i (some p))
theorem Ct{i:Nat}{x:Str}{pos:Pos}(hN:X.N.Nodup)(hi:X.N[i]? =some x)(hx:Loc X.env.scope x)(hf:X.fn x=true∨X.env.scope.names.lookup x=some .local:=by first|exact .inl rfl|exact .inr rfl|assumption):RG X T (.Name x pos) (n8 i):=by with_unfolding_all
 rintro pins s σ H v u Q I r ⟨F,m,ρ,h,p,ρ',R,rp,e,q⟩
 cases e
 exact mR hN hi hx hf pins s σ H v u Q I r (q _ (R.env.set i rp))
noncomputable def aZ(g:Gx)(body:Sx):List PV→Sx
 |[],ρ,h=>.nx ρ h
 |p::r,ρ,h=>match g p ρ with
  |some ρ1=>match body ρ1 h with
   |.nx ρ2 h2=>aZ g body r ρ2 h2
   |.ct ρ2 h2=>aZ g body r ρ2 h2
   |.bk ρ2 h2=>.nx ρ2 h2
   |.rt v h2=>.rt v h2
   |.exc v h2=>.exc v h2
   |.bad=>.bad
  |none=>.bad
def dD(it:Ax)(g:Gx)(body:Sx):Sx:=fun ρ h=>sZ (it ρ h) fun xs h1=>aZ g body xs ρ h1
theorem Fz{tg iter:Expr}{it:Ax}{g:Gx}{body:List Stmt}(hp:PassesOwn (model X.prog X.w) X.A X.env X.xe)(hc:X.calm=true)(hi:RI X T Ew tg iter it)(hg:RG X T tg g)(hb:Tj X T Ew body f)
  (hs:∀x,foldedSetIterable iter X.env x=pure x:=by intro _;rfl):RS X T Ew (.For tg iter body [] pos) (dD it g f):=by with_unfolding_all
 refine PS.imp (Gh hp hc hi hg hb hs) ?_;rintro D σ H ⟨F,m,ρ,h,R,p⟩;refine⟨F,m,ρ,h,R,(Gi p).mono ?_⟩;rintro J H1 ⟨F1,m1,h1,xs,s1,R1,G,w1⟩
 refine⟨fun i n σ2 H2=>n=xs.length - i∧i≤xs.length∧∃F2 m2 ρ2 h2,bf F1 m1 H1 F2 m2 H2∧gZ X.K T F2 m2 ρ2 h2 σ2 H2∧ff X.K T F2 m2 H2 D Ew (aZ g f (xs.drop i) ρ2 h2),⟨_,rfl,Nat.zero_le _,F1,m1,ρ,h1,.refl,R.of s1 R1,w1⟩,?_⟩
 rintro i n σ2 H2 ⟨rfl,R6,F2,m2,ρ2,h2,s2,R2,w2⟩
 rcases Nat.lt_or_ge i xs.length with QZ|XD
 ·right
  refine⟨(G H1).go i F2 m2 h2 H2 s2 R2.toRelH QZ,fun σ' H'=>∃m',m'<xs.length - i∧m'=xs.length - (i+1)∧i+1≤xs.length∧∃F2 m2 ρ2 h2,bf F1 m1 H1 F2 m2 H'∧gZ X.K T F2 m2 ρ2 h2 σ' H'∧ff X.K T F2 m2 H' D Ew (aZ g f (xs.drop (i+1)) ρ2 h2),fun σ' H' q=>q,fun v H3 y=>?_⟩;obtain⟨F3,m3,p,s3,R3,ep,rp⟩:=(G H1).Vf i F2 m2 h2 H2 v H3 s2 R2.toRelH QZ y
  have ed:xs.drop i=p::xs.drop (i+1):=by rw[List.drop_eq_getElem_cons QZ];rw[List.getElem?_eq_getElem QZ,Option.some.injEq]at ep;rw[ep]
  rw[ed]at w2;have w3:=ff.step s3 w2;unfold aZ at w3
  cases q:g p ρ2 with
  |none=>rw[q]at w3;exact w3.elim
  |some ρ3=>
   rw[q]at w3;dsimp only at w3;refine⟨F3,m3,ρ2,h2,p,ρ3,⟨R3,s3.env R2.env⟩,rp,q,fun σ3 r3=>⟨F3,m3,ρ3,h2,⟨R3,r3⟩,?_⟩⟩
   cases z:f ρ3 h2 with
   |nx ρ4 h4=>rw[z]at w3;exact fun F' m' H' σ' s' R'=>⟨xs.length - (i+1),by omega,rfl,by omega,F',m',ρ4,h4,(s2.trans s3).trans s',R',ff.step s' w3⟩
   |ct ρ4 h4=>rw[z]at w3;exact fun F' m' H' σ' s' R'=>⟨xs.length - (i+1),by omega,rfl,by omega,F',m',ρ4,h4,(s2.trans s3).trans s',R',ff.step s' w3⟩
   |bk ρ4 h4=>rw[z]at w3;exact w3
   |rt v4 h4=>rw[z]at w3;exact w3
   |exc v4 h4=>rw[z]at w3;exact w3
   |bad=>rw[z]at w3;exact w3
 ·left
  have e:i=xs.length:=by omega
  subst e;rw[List.drop_length]at w2;exact⟨(G H1).stop F2 m2 h2 H2 s2 R2.toRelH,w2 F2 m2 H2 σ2 .refl R2⟩
end
inductive Out where
 |ok (v:PV)|bad
def cW(v:PV)(h:List PO):Out:=match cC h v with
 |some (q,_)=>.ok q
 |none=>.bad
def aJ(f:Sx)(np n:Nat)(ps:List PV):Out:=if ps.length=np then match f (ps.map some++List.replicate (n - ps.length) none) []with
  |.nx _ _=>.ok .non
  |.rt v h=>cW v h
  |_=>.bad
 else .bad
noncomputable def TJ(K:W.Frag)(T:Tab)(np:Nat)(fn:List PV→Out):Sp:=fun vs H Q _=>∃F ps v,ps.length=np∧cy F H∧aq K T F [] ps vs∧fn ps=.ok v∧
 ∀F' H' x,cy F F'→cy H H'→cy F' H'→(∀a o,F' a=some o→F a=some o∨H a=none)→aL K T F' [] v x→Q x H'
theorem BZ{K:W.Frag}{T:Tab}{np:Nat}{fn:List PV→Out}{vs:List V}{H:Hp}{Q:VK}{E:XK}(h:TJ K T np fn vs H Q E):vs.length=np:=by obtain⟨F,ps,v,e,_,r,_⟩:=h;rw[← r.length];exact e
section
variable{P:Program}{w:World}{K:W.Frag}{mg:Str→Option Value}{base:Heap}{T:Tab}
theorem pK{N:List Str}{F:Hp}{ps:List PV}{vs:List V}(r:aq K T F [] ps vs):lU K T F [] (ps.map some++List.replicate (N.length - ps.length) none) (hZ N vs):=by
 unfold L2.hZ;have hl:=r.length;refine⟨by simp[hl],fun i p e=>?_⟩;rcases Nat.lt_or_ge i ps.length with hi|hi
 ·rw[List.getElem?_append_left (by simpa using hi),List.getElem?_map]at e
  cases q:ps[i]? with
  |none=>rw[q]at e;cases e
  |some p'=>
   rw[q]at e
   cases e
   obtain⟨v,h1,h2⟩:=r.get q;exact⟨v,by rw[List.getElem?_append_left (by simp;omega),List.getElem?_map,h1];rfl,h2⟩
 ·rw[List.getElem?_append_right (by simpa using hi)]at e;rw[List.getElem?_replicate]at e
  split at e<;>cases e
theorem DR{x C_:Str}{st:Stmt}{f:Addr}{fd:FuncData}{N ps:List Str}{k:Nat}{g:Sx}(Fn:T9 K x C_ st f fd)(Sc:jd N ps (aV st))
  (hb:∀(K8:Value)(A:Around)(outer:List Env)(s:Shared)(H:Hp)(E:XK),dR k (A.deeper (envOfC C_ (aV st) s.heap.objs.size f K8))→
   Tj (oG Pg P w K mg base N C_ (aV st) f K8 A outer s H E).Ur T (fun _ _=>False) (eg st) g):
  eD P w K mg base Pg (k+1) f fd ps (TJ K T ps.length (aJ g ps.length N.length)):=by with_unfolding_all
 refine Fn.ok Sc (fun vs H Q E h=>BZ h) fun K8 A outer s H vs Q E hr h=>⟨_,hb K8 A outer s H E hr,?_⟩
 obtain⟨F,qs,v,hl,sm,r,e,q⟩:=h;have R0:gZ K T F [] (qs.map some++List.replicate (N.length - qs.length) none) [] (hZ N vs) H:=⟨⟨sm,rfl,fun i o a h1 h2=>by simp at h1,List.nodup_nil⟩,pK r⟩
 refine⟨F,[],_,[],R0,?_⟩;unfold aJ at e;rw[if_pos hl]at e;have U4:∀{F' m' H'},bf F [] H F' m' H'→cy H H':=fun s b o hb=>s.fr b o hb (by simp)
 have fin:∀{F' m' H' h' p x},bf F [] H F' m' H'→RelH K T F' m' h' H'→aL K T F' m' p x→cW p h'=.ok v→Q x H':=by
  intro F' m' H' h' p x s R rp ef;unfold cW at ef
  cases z:cC h' p with
  |none=>rw[z]at ef;cases ef
  |some ab=>
   obtain⟨p2,h2⟩:=ab;rw[z]at ef
   cases ef
   obtain⟨F2,s2,R2,r2,hp⟩:=jH R rp z;refine q F2 H' x (s.fz.trans s2.fz) (U4 s) R2.same (fun a o ea=>?_) (r2.I_ hp);rcases(s.trans s2).Pz a o ea with z|z|z
   ·exact .inl z
   ·exact .inr z
   ·simp at z
 cases z:g (qs.map some++List.replicate (N.length - qs.length) none) []with
 |nx ρ h1=>
  rw[z]at e
  cases e
  exact fun F' m' H' σ' s R=>q F' H' .non s.fz (U4 s) R.same (fun a o ea=>by
   rcases s.Pz a o ea with z|z|z
   ·exact .inl z
   ·exact .inr z
   ·simp at z) .non
 |rt p h1=>rw[z]at e;exact fun F' m' H' x s R rp=>fin s R rp e
 |bk _ _=>rw[z]at e;cases e
 |ct _ _=>rw[z]at e;cases e
 |exc _ _=>rw[z]at e;cases e
 |bad=>rw[z]at e;cases e
end
def oJ(fn:List PV→Out)(ps:List PV)(h:List PO):Res PV:=match Ms ps h with
 |some (qs,h2)=>match fn qs with
  |.ok v=>.ok v h2
  |.bad=>.bad
 |none=>.bad
def aA(fn:List PV→Out)(as:Ax):Ex:=fun ρ h=>(as ρ h).bind (oJ fn)
section
variable{X:Cx}{T:Tab}{Ew:VK}{a b e:Expr}{es:List Expr}{fa fb:Ex}{fs:Ax}{pos p0:Pos}{k:Nat}{f:Addr}{fd:FuncData}{ps:List Str}{fn:List PV→Out}{x:Str}
theorem mw{F H:Hp}{m:List Addr}{h:List PO}{Q:VK}{K:W.Frag}{np:Nat}{qs:List PV}{vs:List V}{E:XK}(R7:∀qs v,fn qs=.ok v→qs.length=np)(R:RelH K T F m h H)(r:aq K T F m qs vs)(w:aG K T (aL K T) F m H Q Ew (oJ fn qs h)):TJ K T np fn vs H Q E:=by
 unfold oJ at w
 cases z:Ms qs h with
 |none=>rw[z]at w;exact w.elim
 |some ab=>
  obtain⟨q2,h2⟩:=ab;rw[z]at w;dsimp only at w;obtain⟨F2,s2,R2,r2,hp⟩:=ou R r z
  cases y:fn q2 with
  |bad=>rw[y]at w;exact w.elim
  |ok v=>
   rw[y]at w;refine⟨F2,q2,v,R7 _ _ y,R2.same,r2.I_ hp,y,fun F' H' x a1 a2 a3 a4 rx=>?_⟩;have s3:bf F2 m H F' m H':=⟨a1,⟨[],by simp⟩,fun b o hb _=>a2 b o hb,fun b o hb=>⟨o,a2 b o hb⟩,fun i a hi e=>(by rw[List.getElem?_eq_none hi]at e;cases e),fun a o ea=>(a4 a o ea).elim .inl (fun z=>.inr (.inl z))⟩
   refine w F' m H' x (s2.trans s3) ⟨a3,R2.len,fun i o a e1 e2=>?_,R2.nd⟩ (rx.mono (cy.refl _) fun i a e=>by simp at e);have q:=R2.obj i o a e1 e2
   have live:F2 a=none→(∃u,H a=some u)→F' a=none:=fun n ⟨u,hu⟩=>by
    cases z:F' a with
    |none=>rfl
    |some o=>
     rcases a4 a o z with y|y
     ·rw[n]at y;cases y
     ·rw[hu]at y;cases y
   cases o with
   |lst xs=>obtain⟨f0,ws,z,rr⟩:=q;exact⟨live f0 ⟨_,z⟩,ws,a2 _ _ z,s3.reps rr⟩
   |dct xs=>obtain⟨f0,ws,z,kk,rr⟩:=q;exact⟨live f0 ⟨_,z⟩,ws,a2 _ _ z,kk,s3.reps rr⟩
   |o9 p'=>obtain⟨r1,r3,o,r4⟩:=q;exact⟨s3.rep r1,r3,o,a1 _ _ r4⟩
theorem CG(F:eD X.prog X.w X.K X.mg X.base Pg k f fd ps (TJ X.K T ps.length fn))(R7:∀qs v,fn qs=.ok v→qs.length=ps.length)(hr:dR k X.A)(hg:Gl X x)(hm:X.mg x=some (.ref f))(hk:W.keepIn X.K (.ref f)=true)(hb:ga X.K fd ps [])
  (ha:RA X T Ew (e::es) fs) (Qh:nD0 x:=by decide)(he:sE0 X e es:=by rfl) (Mu:sP0 X es pos:=by rfl):
  RE X T Ew (.Call (.Name x p0) (e::es) [] pos) (aA fn fs):=by with_unfolding_all
 refine PE.imp (qN F hr hg hm hk hb .nil sJ ha Qh he Mu) ?_;rintro σ H Q ⟨F,m,ρ,h,R,p⟩;refine⟨F,m,ρ,h,R,(aG.bind p).mono ?_⟩;rintro vs H1 ⟨F1,m1,h1,qs,s1,R1,r1,w1⟩
 rw[List.append_nil];exact mw R7 R1 r1 w1
theorem sD(F:eD X.prog X.w X.K X.mg X.base Pg k f fd ps (TJ X.K T ps.length fn))(R7:∀qs v,fn qs=.ok v→qs.length=ps.length)(hr:dR k X.A)(hg:Gl X x)(hm:X.mg x=some (.ref f))(hk:W.keepIn X.K (.ref f)=true)(hb:ga X.K fd ps [])
  (Qh:nD0 x:=by decide):RE X T Ew (.Call (.Name x p0) [] [] pos) (aA fn ag):=by with_unfolding_all
 refine PE.imp (AA F hr hg hm hk hb .nil sJ Qh) ?_;rintro σ H Q ⟨F,m,ρ,h,R,p⟩;exact mw (qs:=[]) (vs:=[]) (E:=E0) R7 R.toRelH .nil p
theorem aH{f:Sx}{np n:Nat}:∀qs v,aJ f np n qs=.ok v→qs.length=np:=fun qs v h=>by
 unfold aJ at h
 split at h
 ·assumption
 ·cases h
structure oS(X:Cx)(T:Tab)(k:Nat)(m:Str)(C:Addr)(np:Nat)(fn:List PV→Out):Prop where
 c:Cls X.K C
 ex:∃(f:Addr)(fd:FuncData)(ps:List Str),ps.length=np∧jT X.K C m f∧eD X.prog X.w X.K X.mg X.base Pg k f fd ps (TJ X.K T np fn)∧ga X.K fd ps []
 len:∀qs v,fn qs=.ok v→qs.length=np
theorem yg{k:Nat}{m:Str}{o:Expr}{ta:TE}{apos:Pos}{pl:Sem Bool}(he:PE X o ta)(hr:dR k X.A)
  (ht:eval (.Call (.Attribute o m apos) [] [] pos) X.env=(do
   let ov ← eval o X.env
   standAt apos.atName
   let(f,first) ← holding [ov] (getMethod ov m pl)
   callWith pos f first (backTo pos (starEach [] X.env)) (backToKw pos (keywordEach [] X.env))):=by rfl):
  PE X (.Call (.Attribute o m apos) [] [] pos) (fun σ H Q=>ta σ H fun x H1=>∃a C dx fs np fn,x=.ref a∧H1 a=some (.ins C dx fs)∧fs.lookup m=none∧oS X T k m C np fn∧TJ X.K T np fn [x] H1 Q E0):=by
 intro pins s σ H Q I h;refine W.methodCall_KW (pl:=pl) (B_ (he pins s σ H _ I h) ?_) ht;rintro u s1 ⟨x,H1,I1,rx,a,C,dx,fs,np,fn,ex,ea,l,M,q⟩;subst ex;obtain rfl:u=Value.ref a:=rx;obtain⟨f,fd,ps,hl,hm,F,hb⟩:=M.ex;refine vn I1 ea M.c hm l ?_;exact W.callWith_K0 (first:=[.ref a]) I1.Qq hm.kp (uq (us:=[.ref a]) (vs:=[.ref a]) (T6:=[]) F hr hb .nil sJ I1 (.cons rfl .nil) q)
def kh(res:Nat→Option (List PV→Out))(o:Ex)(as:Ax):Ex:=fun ρ h=>(o ρ h).bind fun p h1=>match p with
 |.ins C []=>match res C with
  |some fn=>(as ρ h1).bind fun ps h2=>oJ fn (.ins C []::ps) h2
  |none=>.bad
 |_=>.bad
theorem nK{res:Nat→Option (List PV→Out)}{m:Str}{o:Expr}{fo:Ex}{apos:Pos}{pl:Sem Bool}(YC:∀C fn,res C=some fn→∀a,T C=some a→∃np,oS X T k m a np fn)(ho:RE X T Ew o fo)(hr:dR k X.A)
  (ht:eval (.Call (.Attribute o m apos) [] [] pos) X.env=(do
   let ov ← eval o X.env
   standAt apos.atName
   let(f,first) ← holding [ov] (getMethod ov m pl)
   callWith pos f first (backTo pos (starEach [] X.env)) (backToKw pos (keywordEach [] X.env))):=by rfl):
  RE X T Ew (.Call (.Attribute o m apos) [] [] pos) (kh res fo ag):=by with_unfolding_all
 refine PE.imp (yg (T:=T) ho hr ht) ?_;rintro σ H Q ⟨F,m',ρ,h,R,p⟩;refine⟨F,m',ρ,h,R,(aG.bind p).mono ?_⟩;rintro x H1 ⟨F1,m1,h1,p1,s1,R1,r1,w1⟩
 cases r1 with
 |@ins C fs a Ca dx V_ c ef d kk rr=>
  cases fs with
  |cons _ _=>exact w1.elim
  |nil=>
   have hf:V_= []:=by cases V_ with
    |nil=>rfl
    |cons _ _=>simp at kk
   subst hf;dsimp only at w1
   cases z:res C with
   |none=>rw[z]at w1;exact w1.elim
   |some fn=>rw[z]at w1;obtain⟨np,M⟩:=YC C fn z Ca c;refine⟨a,Ca,dx,[],np,fn,rfl,R1.same _ _ ef,rfl,M,?_⟩;exact mw M.len R1 (.cons (.ins c ef d kk rr) .nil) w1
 |_=>exact w1.elim
theorem xU{pins:List (Addr×Obj)}{σ:St}{H:Hp}{s:Shared}{Q:VK}{C:Addr}(hm:W.makesIn X.K C=true)(hi:W.findIn X.K (.ref C) "__init__"=some (some (.builtin "object.__init__")))(I:Inv X pins σ H s)
  (h:∀x dx,H x=none→H dx=none→dx≠x→Q (.ref x) (upd (upd H dx (.own x)) x (.ins C dx []))):wpAny (model X.prog X.w) X.A (call (.ref C) []) (EP X pins σ Q) X.xe s:=by
 have hq:=h (s.heap.objs.size+1) s.heap.objs.size (I.hok.fresh (Nat.le_succ _)) (I.hok.fresh (Nat.le_refl _)) (Nat.ne_of_lt (Nat.lt_succ_self _));have I2:=Inv.made (C:=C) I
 have e2:((s.heap.push W.emptyDict).push (W.instObj C s.heap.objs.size)).get? (s.heap.objs.size+1)=some (W.instObj C s.heap.objs.size):=by
  have:=Heap.get?_push_size (s.heap.push W.emptyDict) (o:=W.instObj C s.heap.objs.size) rfl
  rwa [Heap.size_push]at this
 have Y:=W.makes_of (M:=model X.prog X.w) I.Qq hm;have t1:W.Looks (model X.prog X.w) ((s.heap.push W.emptyDict).push (W.instObj C s.heap.objs.size)) (typeOf (.ref (s.heap.objs.size+1))) (.ref C):=(W.Looks.ld e2).andThen .now;have t2:W.Looks (model X.prog X.w) ((s.heap.push W.emptyDict).push (W.instObj C s.heap.objs.size)) (isInstance (.ref (s.heap.objs.size+1)) (.type "object")) true:=t1.andThen (Y.top.keeps fun b o e=>Heap.get?_push_of_some _ (Heap.get?_push_of_some _ e));refine wpAny_call (yw I.Qq hm hi (fun self=>W.Looks.of_pure (W.oi_bind self)) ?_);refine codeAny_call_builtin W.oi_plain W.entry_oi (@W.check_slot (model X.prog X.w) _ _ _ "object.__init__" "object" "__init__" (.ref (s.heap.objs.size+1)) [] [] _ W.oi_kind W.oi_split t2 (W.oi_args (.ref (s.heap.objs.size+1))) ?_);rw[W.oi_run];exact wpAny_pure (And.intro rfl ⟨.ref (s.heap.objs.size+1),_,I2,rfl,hq⟩)
noncomputable def qr(C:Nat):Ex:=fun _ h=>.ok (.ins C []) h
theorem jv{Cn:Nat}{C:Addr}(hT:T Cn=some C)(hm:W.makesIn X.K C=true)(hi:W.findIn X.K (.ref C) "__init__"=some (some (.builtin "object.__init__")))(hk:W.keepIn X.K (.ref C)=true)(hg:Gl X x)(hx:X.mg x=some (.ref C))
  (Qh:nD0 x:=by decide):RE X T Ew (.Call (.Name x p0) [] [] pos) (qr Cn):=by with_unfolding_all
 intro pins s σ H Q I ⟨F,m,ρ,h,R,p⟩;refine wpAny_Call_Name_kw (mW I hg hx ?_ Qh);refine W.callWith_K0 I.Qq hk (xU hm hi I fun x dx nx ndx ne=>?_);obtain⟨s1,R1⟩:=bf.lay (o:=.own x) R.toRelH ndx;obtain⟨s2,R2⟩:=bf.lay (p:=x) (o:=.ins C dx []) R1 (by rw[aj (fun z=>ne z.symm)];exact nx);exact p _ m _ _ (s1.trans s2) R2 (.ins hT aK (by rw[aj ne,aK]) rfl .nil)
theorem iE{u:Value}{l:List Nat}(hg:Gl X x)(hm:X.mg x=some u)(r:aX (.str (S l)) u)(hd:nD0 x:=by decide):RE X T Ew (.Name x pos) (cK (.str l)):=by with_unfolding_all exact(
  gG (wx hg hm r hd) fun _ _=>.str l)
end
noncomputable def kT(kvs:List (PK×PV))(k:PK)(v:PV):List (PK×PV):=
 if(kvs.any fun kv=>decide (kv.1=k))=true then kvs.map (fun kv=>if kv.1=k then(kv.1,v)else kv)else kvs++ [(k,v)]
section
variable{K:W.Frag}{T:Tab}{F H:Hp}{m:List Addr}
def dy(K:W.Frag)(T:Tab)(F:Hp)(m:List Addr)(kps:List (PK×PV))(kvs:List (Key×V)):Prop:=kvs.map (·.1)=kps.map (fun p=>tk p.1)∧aq K T F m (kps.map (·.2)) (kvs.map (·.2))
theorem dy.nil:dy K T F m [] []:=⟨rfl,.nil⟩
theorem dy.any(k:PK):∀{kps:List (PK×PV)}{kvs:List (Key×V)},kvs.map (·.1)=kps.map (fun p=>tk p.1)→(kvs.any fun kv=>decide (kv.1=tk k))=kps.any fun kv=>decide (kv.1=k)
 |[],[],_=>rfl
 |[],_::_,h=>by simp at h
 |_::_,[],h=>by simp at h
 |(k1,p1)::kps,(k2,v2)::kvs,h=>by
  simp only[List.map_cons,List.cons.injEq]at h;rw[List.any_cons,List.any_cons,dy.any k h.2]
  congr 1
  rw[h.1]
  by_cases e:k1=k
  ·subst e;simp
  ·have:¬ tk k1=tk k:=fun z=>e (qD z);simp[e,this]
theorem dy.repl{k:PK}{p:PV}{v:V}(r:aL K T F m p v):∀{kps:List (PK×PV)}{kvs:List (Key×V)},dy K T F m kps kvs→dy K T F m (kps.map fun kv=>if kv.1=k then(kv.1,p)else kv) (kvs.map fun kv=>if kv.1=tk k then(kv.1,v)else kv)
 |[],[],_=>.nil
 |[],_::_,h=>by have:=h.1;simp at this
 |_::_,[],h=>by have:=h.1;simp at this
 |(k1,p1)::kps,(k2,v2)::kvs,⟨h1,h2⟩=>by
  simp only[List.map_cons,List.cons.injEq]at h1 h2
  cases h2 with
  |cons a b=>
   obtain⟨i1,i2⟩:=dy.repl (k:=k) r (kps:=kps) (kvs:=kvs) ⟨h1.2,b⟩;simp only[List.map_cons]
   by_cases e:k1=k
   ·subst e;rw[if_pos h1.1,if_pos rfl];exact⟨by simp only[List.map_cons,h1.1,i1],.cons r i2⟩
   ·have e2:¬ k2=tk k:=fun z=>e (qD (h1.1.symm.trans z));rw[if_neg e2,if_neg e];exact⟨by simp only[List.map_cons,h1.1,i1],.cons a i2⟩
theorem dy.put{k:PK}{p:PV}{v:V}{kps:List (PK×PV)}{kvs:List (Key×V)}(h:dy K T F m kps kvs)(r:aL K T F m p v):dy K T F m (kT kps k p) (iS kvs (tk k) v):=by
 unfold kT iS;rw[dy.any k h.1]
 split
 ·exact h.repl r
 ·exact⟨by rw[List.map_append,List.map_append,h.1];rfl,by rw[List.map_append,List.map_append];exact h.2.append (.cons r .nil)⟩
theorem dy.merge:∀{more:List (PK×PV)}{mv:List (Key×V)}{kps:List (PK×PV)}{kvs:List (Key×V)},dy K T F m more mv→dy K T F m kps kvs→dy K T F m (more.foldl (fun acc kv=>kT acc kv.1 kv.2) kps) (cQ kvs mv)
 |[],[],_,_,_,h=>h
 |[],_::_,_,_,h,_=>by have:=h.1;simp at this
 |_::_,[],_,_,h,_=>by have:=h.1;simp at this
 |(k1,p1)::more,(k2,v2)::mv,kps,kvs,⟨h1,h2⟩,h=>by
  simp only[List.map_cons,List.cons.injEq]at h1 h2
  cases h2 with
  |cons a b=>show dy K T F m (more.foldl _ (kT kps k1 p1)) (cQ (iS kvs k2 v2) mv);rw[h1.1];exact dy.merge ⟨h1.2,b⟩ (h.put a)
end
def eV:List (Ex×Ex)→Ev→List PO→Res (List (PK×PV))
 |[],_,h=>.ok [] h
 |(a,b)::r,ρ,h=>(a ρ h).bind fun x h1=>(b ρ h1).bind fun y h2=>match eS x with
  |some k=>(eV r ρ h2).bind fun ps h3=>.ok ((k,y)::ps) h3
  |none=>.bad
def Wz(ps:List (PK×PV)):List (PK×PV):=ps.foldl (fun acc kv=>kT acc kv.1 kv.2) []
def mJ(fs:List (Ex×Ex)):Ex:=fun ρ h=>(eV fs ρ h).bind fun ps h1=>.ok (.dct (Wz ps)) h1
@[irreducible] def VN(X:Cx)(T:Tab)(Ew:VK)(pos:Pos)(keys:List (Option Expr))(values:List Expr)(fs:List (Ex×Ex)):Prop:=Xe X pos keys values (fs.map fun p=>(wE X T Ew p.1,wE X T Ew p.2))
section
variable{X:Cx}{T:Tab}{Ew:VK}{a b k v o e f:Expr}{fa fb fo:Ex}{pos apos G7:Pos}{keys:List (Option Expr)}{values:List Expr}{fs:List (Ex×Ex)}
theorem Cl:VN X T Ew pos [] [] []:=by with_unfolding_all exact(
  CV)
theorem zE(hk:RE X T Ew k fa)(hv:RE X T Ew v fb)(hr:VN X T Ew pos keys values fs):VN X T Ew pos (some k::keys) (v::values) ((fa,fb)::fs):=by with_unfolding_all exact(
  Ak hk hv hr)
theorem md{σ:St}{ρ:Ev}:∀(fs:List (Ex×Ex)){F:Hp}{m:List Addr}{h:List PO}{H:Hp}{Q:List (V×V)→Hp→Prop},gZ X.K T F m ρ h σ H→
  aG X.K T (fun F m ps vs=>∃kvs:List (Key×V),vs=kvs.map (fun kv=>(kV kv.1,kv.2))∧dy X.K T F m ps kvs) F m H Q Ew (eV fs ρ h)→qF (fs.map fun p=>(wE X T Ew p.1,wE X T Ew p.2)) σ H Q
 |[],F,m,h,H,Q,R,p=>aG.here p R.toRelH ⟨[],rfl,.nil⟩
 |(fa,fb)::fs,F,m,h,H,Q,R,p=>by
  refine⟨F,m,ρ,h,R,(aG.bind p).mono ?_⟩;rintro x H1 ⟨F1,m1,h1,px,s1,R1,r1,w1⟩;refine⟨F1,m1,ρ,h1,R.of s1 R1,(aG.bind w1).mono ?_⟩;rintro y H2 ⟨F2,m2,h2,py,s2,R2,r2,w2⟩
  cases q:eS px with
  |none=>rw[q]at w2;exact w2.elim
  |some kk=>rw[q]at w2;refine md fs ((R.of s1 R1).of s2 R2) ((aG.bind w2).mono ?_);rintro vs H3 ⟨F3,m3,h3,ps,s3,R3,⟨kvs,e3,r3⟩,w3⟩;subst e3;have ex:=fI (s2.rep r1) q;subst ex;exact aG.here w3 R3 ⟨(tk kk,y)::kvs,rfl,by simp only[List.map_cons,r3.1],.cons (s3.rep r2) r3.2⟩
theorem lJ{F F2 H H2:Hp}{m m2:List Addr}{p:Addr}{o u:HO}{h2:List PO}(R:∀a o,F a=some o→H a=some o)(hp:H p=none)(s:bf F m (upd H p o) F2 m2 H2)(R2:RelH X.K T F2 m2 h2 H2)(hm:p∉m):H2 p=some o∧F2 p=none∧p∉m2∧
  bf F m H (upd F2 p u) m2 (upd H2 p u)∧RelH X.K T (upd F2 p u) m2 h2 (upd H2 p u):=by
 have e1:H2 p=some o:=s.fr p o aK hm
 have hF:F p=none:=by
  cases q:F p with
  |none=>rfl
  |some z=>rw[R p z q]at hp;cases hp
 have e2:F2 p=none:=by
  cases q:F2 p with
  |none=>rfl
  |some z=>
   rcases s.Pz p z q with y|y|y
   ·rw[hF]at y;cases y
   ·rw[aK]at y;cases y
   ·exact absurd y hm
 have e3:p∉m2:=fun z=>by
  rcases s.mem z with y|y
  ·exact hm y
  ·rw[aK]at y;cases y
 have sF:cy F2 (upd F2 p u):=eQ e2 u;refine⟨e1,e2,e3,⟨s.fz.trans sF,s.pre,fun b z hb n=>?_,fun b z hb=>?_,fun i a hi ea=>?_,fun a z ea=>?_⟩,⟨fun b z hb=>?_,R2.len,fun i ob a h1 Tv=>?_,R2.nd⟩⟩
 ·have Rt:b≠p:=aE hb hp;rw[aj Rt];exact s.fr b z (by rw[aj Rt];exact hb) n
 ·have Rt:b≠p:=aE hb hp;obtain⟨z',ez⟩:=s.dom b z (by rw[aj Rt];exact hb);exact⟨z',by rw[aj Rt];exact ez⟩
 ·have q:=s.new i a hi ea;have Rt:a≠p:=fun z=>by rw[z,aK]at q;cases q
  rw[aj Rt]at q;exact q
 ·by_cases ha:a=p
  ·subst ha;exact .inr (.inl hp)
  ·rw[aj ha]at ea;rcases s.Pz a z ea with y|y|y
   ·exact .inl y
   ·rw[aj ha]at y;exact .inr (.inl y)
   ·exact .inr (.inr y)
 ·by_cases ha:b=p
  ·subst ha;rw[aK]at hb ⊢;exact hb
  ·rw[aj ha]at hb ⊢;exact R2.same b z hb
 ·have Vw:a≠p:=fun z=>e3 (by rw[← z];exact List.mem_of_getElem? Tv);have q:=R2.obj i ob a h1 Tv
  cases ob with
  |lst xs=>obtain⟨f0,ws,z,rr⟩:=q;exact⟨by rw[aj Vw];exact f0,ws,by rw[aj Vw];exact z,rr.mono sF fun _ _ h=>h⟩
  |dct xs=>obtain⟨f0,ws,z,kk,rr⟩:=q;exact⟨by rw[aj Vw];exact f0,ws,by rw[aj Vw];exact z,kk,rr.mono sF fun _ _ h=>h⟩
  |o9 p'=>obtain⟨r1,r3,o,r4⟩:=q;exact⟨r1.mono sF fun _ _ h=>h,r3,o,sF _ _ r4⟩
theorem RelH.fresh{K:W.Frag}{F H:Hp}{m:List Addr}{h:List PO}(R:RelH K T F m h H){p:Addr}(hp:H p=none):p∉m:=fun z=>by
 obtain⟨i,e⟩:=List.mem_iff_getElem?.mp z
 have hi:i<h.length:=by
  rw[R.len];rcases Nat.lt_or_ge i m.length with q|q
  ·exact q
  ·rw[List.getElem?_eq_none q]at e;cases e
 have q:=R.obj i _ p (List.getElem?_eq_getElem hi) e
 cases ho:h[i]with
 |lst xs=>rw[ho]at q;obtain⟨_,vs,z,_⟩:=q;rw[hp]at z;cases z
 |dct xs=>rw[ho]at q;obtain⟨_,vs,z,_⟩:=q;rw[hp]at z;cases z
 |o9 xs=>rw[ho]at q;obtain⟨_,_,o,z⟩:=q;rw[R.same _ _ z]at hp;cases hp
theorem sy{F H:Hp}{m:List Addr}{ρ:Ev}{h:List PO}{σ:St}(R:gZ X.K T F m ρ h σ H){p:Addr}(hp:H p=none)(o:HO):gZ X.K T F m ρ h σ (upd H p o):=by
 have hm:=R.toRelH.fresh hp;refine⟨⟨fun b u e=>?_,R.len,fun i ob a h1 h2=>?_,R.nd⟩,R.env⟩
 ·rw[aj (aE (R.same _ _ e) hp)];exact R.same b u e
 ·have Vw:a≠p:=fun z=>hm (by rw[← z];exact List.mem_of_getElem? h2);have q:=R.obj i ob a h1 h2
  cases ob with
  |lst xs=>obtain⟨f0,ws,z,rr⟩:=q;exact⟨f0,ws,by rw[aj Vw];exact z,rr⟩
  |dct xs=>obtain⟨f0,ws,z,kk,rr⟩:=q;exact⟨f0,ws,by rw[aj Vw];exact z,kk,rr⟩
  |o9 p'=>exact q
theorem CF(h:VN X T Ew pos keys values fs)(QS:keys.all (·.isSome)=true)(hl:keys.length=values.length)(h0:keys≠ [])(T5:keys.length≤15)(Vt:fs.length=keys.length):RE X T Ew (.Dict keys values pos) (mJ fs):=by with_unfolding_all
 refine PE.imp (EF (wC h QS hl h0 T5)) ?_;rintro σ H Q ⟨F,m,ρ,hh,R,p⟩ pp hp;have hm:=R.toRelH.fresh hp;have R':=sy R hp (.dK [])
 have E_:∀{fs:List (Ex×Ex)} {h ps h'},eV fs ρ h=.ok ps h'→ps.length=fs.length:=by
  intro fs
  induction fs with
  |nil=>intro h ps h' e;simp[eV]at e;rw[e.1];rfl
  |cons x r ih=>
   intro h ps h' e;obtain⟨fa,fb⟩:=x;simp only[eV]at e
   cases q1:fa ρ h with
   |bad=>rw[q1]at e;cases e
   |exc _ _=>rw[q1]at e;cases e
   |ok x1 h1=>
    rw[q1]at e;simp only[Res.G4]at e
    cases q2:fb ρ h1 with
    |bad=>rw[q2]at e;cases e
    |exc _ _=>rw[q2]at e;cases e
    |ok y1 h2=>
     rw[q2]at e;simp only[Res.G4]at e
     cases q3:eS x1 with
     |none=>rw[q3]at e;cases e
     |some kk=>
      rw[q3]at e;dsimp only at e
      cases q4:eV r ρ h2 with
      |bad=>rw[q4]at e;cases e
      |exc _ _=>rw[q4]at e;cases e
      |ok ps3 h3=>
       rw[q4]at e
       cases e
       simp[ih q4]
 unfold mJ at p;refine md fs R' ?_
 cases q:eV fs ρ hh with
 |bad=>rw[q]at p;exact p
 |exc e1 h1=>
  rw[q]at p;intro F2 m2 H2 x s2 R2 rx;obtain⟨e1,e2,e3,s3,R3⟩:=lJ (u:=.dK []) R.same hp s2 R2 hm
  have hs:upd H2 pp (.dK [])=H2:=by
   funext b
   by_cases hb:b=pp
   ·subst hb;rw[aK,e1]
   ·rw[aj hb]
  rw[hs]at s3 R3;exact p _ m2 H2 x s3 R3 (rx.mono (eQ e2 _) fun _ _ h=>h)
 |ok ps h1=>
  rw[q]at p;intro F2 m2 H2 vs s2 R2 ⟨kvs,ev,rk⟩;obtain⟨e1,e2,e3,_,_⟩:=lJ (u:=.dK (cQ [] kvs)) R.same hp s2 R2 hm;have YQ:kvs.length=ps.length:=by have:=congrArg List.length rk.1;simpa using this
  refine⟨e1,kvs,ev,by rw[YQ,E_ q,Vt];exact T5,?_⟩;have rm:dy X.K T F2 m2 (Wz ps) (cQ [] kvs):=dy.merge rk .nil;refine .inr ⟨pp,_,aK,fun o=>?_⟩;rw[BS];obtain⟨_,_,_,s3,R3⟩:=lJ (u:=.Py o (.dK (cQ [] kvs))) R.same hp s2 R2 hm;have sF:cy F2 (upd F2 pp (.Py o (.dK (cQ [] kvs)))):=eQ e2 _;exact p _ m2 _ _ s3 R3 (.dct aK rm.1 (rm.2.mono sF fun _ _ h=>h))
def BA(d k x:Ex):Ex:=fun ρ h=>(d ρ h).bind fun p h1=>if(Ru h1 p).isSome=true then(k ρ h1).bind fun q h2=>(x ρ h2).bind fun z h3=>match Ru h3 p with
  |some kvs=>match eS q with
   |some kk=>.ok (match jk kvs kk with|some v=>ay h3 v|none=>z) h3
   |none=>.bad
  |none=>.bad
 else .bad
theorem CB{fx:Ex}(hu:X.A.units+64<cLine)(ho:RE X T Ew o fo)(he:RE X T Ew e fa)(hf:RE X T Ew f fx)(mm:M2 X o "get" apos e f G7):RE X T Ew (.Call (.Attribute o "get" apos) [e,f] [] G7) (BA fo fa fx):=by with_unfolding_all
 refine PE.imp (Ay (by omega) ho he hf mm) ?_;rintro σ H Q ⟨F,m,ρ,h,R,p⟩;refine⟨F,m,ρ,h,R,(aG.bind p).mono ?_⟩;rintro x H1 ⟨F1,m1,h1,p1,s1,R1,r1,w1⟩
 by_cases hd:(Ru h1 p1).isSome=true
 ·rw[if_pos hd]at w1;obtain⟨aa0,ek1⟩:=Option.isSome_iff_exists.mp hd;obtain⟨a,ws,rfl,rd,_,_⟩:=ig R1 r1 ek1;refine⟨a,rfl,.inl ⟨ws,rd⟩,F1,m1,ρ,h1,R.of s1 R1,(aG.bind w1).mono ?_⟩;rintro y H2 ⟨F2,m2,h2,p2,s2,R2,r2,w2⟩;refine⟨F2,m2,ρ,h2,(R.of s1 R1).of s2 R2,(aG.bind w2).mono ?_⟩;rintro z H3 ⟨F3,m3,h3,p3,s3,R3,r3,w3⟩
  cases q:Ru h3 p1 with
  |none=>rw[q]at w3;exact w3.elim
  |some kvs=>
   rw[q]at w3;dsimp only at w3
   cases q2:eS p2 with
   |none=>rw[q2]at w3;exact w3.elim
   |some kk=>
    rw[q2]at w3;dsimp only at w3;obtain⟨a',Zx,ea,rd',kq,rr⟩:=ig R3 (s3.rep (s2.rep r1)) q
    cases ea
    have ey:=fI (s3.rep r2) q2;subst ey;refine⟨iP Zx (tk kk),.inl ⟨Zx,tk kk,rd',rfl,rfl⟩,?_⟩;rcases iz kq rr kk with⟨v1,u1,e1,e2,rv⟩|⟨e1,e2⟩
    ·rw[e1]at w3;rw[e2];exact aG.here w3 R3 (R3.R9 rv)
    ·rw[e1]at w3;rw[e2];exact aG.here w3 R3 r3
 ·rw[if_neg hd]at w1;exact w1.elim
theorem CU{K:W.Frag}{T:Tab}:eZ K T (fun x y H Q=>y=.non∧Q (.bl (decide (x=.non))) H) Vm:=by
 intro F m h H x y p q Q Ew R rp rq w;unfold Vm at w
 split at w
 ·cases rq;exact⟨rfl,by rw[qc rp];exact aS w R (.bl _)⟩
 ·exact w.elim
theorem uD{K:W.Frag}{T:Tab}:eZ K T (fun x y H Q=>y=.non∧Q (.bl (!decide (x=.non))) H) dE:=by
 intro F m h H x y p q Q Ew R rp rq w;unfold dE at w
 split at w
 ·cases rq;exact⟨rfl,by rw[qc rp];exact aS w R (.bl _)⟩
 ·exact w.elim
end
noncomputable def wc(K:W.Frag):Sp:=fun vs H Q _=>∃(a:Addr)(ns:List Int),vs= [.ref a]∧Mq K H a (ns.map V.int)∧ns.length≤63∧∀H',Q (.bl true) H'
theorem pJ{K:W.Frag}{T:Tab}{F:Hp}{m:List Addr}:∀ns:List Int,aq K T F m (ns.map PV.int) (ns.map V.int)
 |[]=>.nil
 |n::r=>.cons (.int n) (pJ r)
theorem xM{K:W.Frag}{T:Tab}{fn:List PV→Out}(h:∀ns:List Int,ns.length≤63→fn [.Mv (ns.map PV.int)]=.ok (.bl true)):∀vs H Q E,wc K vs H Q E→TJ K T 1 fn vs H Q E:=by
 rintro vs H Q E ⟨a,ns,rfl,sq,hl,q⟩
 refine⟨fun b=>if b=a then H a else none,[.Mv (ns.map PV.int)],.bl true,rfl,fun b o e=>?_,.cons (.Mv ?_ (pJ ns)) .nil,h ns hl,fun F' H' x _ _ _ _ r=>?_⟩
 ·by_cases hb:b=a
  ·subst hb;have e':H b=some o:=by simpa using e
   exact e'
  ·have e':(none:Option HO)=some o:=by simpa[hb]using e
   cases e'
 ·rcases sq with(sq|⟨o,sq⟩)|sq
  ·exact .inl (.inl (by simpa using sq))
  ·exact .inl (.inr ⟨o,by simpa using sq⟩)
  ·exact .inr sq
 ·cases r;exact q H'
theorem AU{l:W.OpenLaw}{k:Nat}{q:Program}{loose:List Str}{XP:(Str→Option Value)→Heap→Prop}{YP:World→Heap→Prop}{d:DefRec}{K:Params→W.Frag}{x:Str}(hn:l.most=some 63)(W3:d.params.defaults= [])(hr:dR k callerA)
  (hY:∀(w:World)(h:Heap),YP w h→(K w.params).In h)
  (F:∀(w:World)(mg:Str→Option Value)(fa:Addr)(h:Heap),(K w.params).In h→h.Ns mainGlobals mg→mg d.name=some (.ref fa)→
   ∃fd:FuncData,(∀(s:Shared)(u:Value),BindsTo s fd ⟨[u],[]⟩ [(x,u)])∧∀base:Heap,(K w.params).In base→base.Ns mainGlobals mg→eD l.prog w (K w.params) mg base Pg k fa fd [x] (wc (K w.params))):
  W.WalkO q loose XP YP l.row.toRowW d [] (fun f vs=>PySem.call f vs):=
 L2.BR (n:=63) (k:=k) (x:=x) (CX:=fun _=>Pg) (sp:=fun w=>wc (K w.params)) hn (by decide) W3 hr hY F (fun _ _ a ns hl _ hS=>⟨a,ns,rfl,hS,hl,fun _=>rfl⟩) fun _ _ _ _ _ z=>z
end L3
namespace L2
open PySem PySem.Spec PyProof.Rows
end L2
namespace L3
open PySem PySem.Spec PyProof.Rows L2
end L3
namespace L2
open PySem PySem.Spec PyProof.Rows PySem.Builtin PySem.Builtin.Str
section
variable{X:Cx}
theorem oM:∀{bs:List Bool}{us:List Value},aR (bs.map V.bl) us→LSm.BoolsAre us bs
 |[],_,.nil=>.nil
 |b::r,_,.cons e t=>by
  cases e
  exact .cons b (oM t)
theorem By(hc:X.calm=true):cY X (.builtin "all") (fun xs H Q=>∃(p:Addr)(bs:List Bool),xs= [.ref p]∧Mq X.K H p (bs.map V.bl)∧Q (.bl (bs.all id)) H):=by
 intro pins s σ H xs us Q I r h;obtain⟨p,bs,rfl,hq,q⟩:=h;obtain⟨u,rfl,ru⟩:=r.one
 cases ru
 obtain⟨its,r',pl,hz⟩:=I.list hq;have hl:=pl.isList;have hb:=oM r';have hh:X.A.handled=none:=I.ok.hd hc;have QZ:p<s.heap.objs.size:=by obtain⟨_,e,_⟩:=hl;exact Heap.lt_size e
 refine call_all_walk (wpAny_pyIter_list hl ?_)
 refine⟨s.heap.objs.size,[s.heap.objs.size,p],[s.heap.objs.size],its.toArray.size,_,_,fun i=>(bs[i]?).getD true,rfl,Walks.list (A:=X.A.in1) hh _ p (Nat.ne_of_lt QZ) its.toArray,
  ⟨⟨_,Heap.get?_push_size _ rfl,rfl,rfl⟩,hl.push _⟩,fun i v s' Q' E' hP hQ=>?_,fun h' tk hk=>?_⟩
 ·obtain⟨b,e,rfl⟩:=hb.get i v (by simpa using hP);simp only[e,Option.getD_some]at hQ;exact wpAny_truthy_bool hQ
 ·have e:((List.range its.toArray.size).all fun i=>(bs[i]?).getD true)=bs.all id:=by rw[List.size_toArray,hb.length];exact LSm.range_all bs
  rw[e];exact⟨.bl _,H,I.kept (t':=tk) (LSm.kept_iter hk),rfl,q⟩
end
end L2
namespace L3
open PySem PySem.Spec PyProof.Rows L2
section
variable{X:Cx}{T:Tab}{Ew:VK}{pos p0:Pos}
noncomputable def dM:List PV→Option (List Bool)
 |[]=>some []
 |.bl b::r=>(dM r).map (b:: ·)
 |_::_=>none
theorem jL{K:W.Frag}{F:Hp}{m:List Addr}:∀{ps:List PV}{vs:List V}{bs:List Bool},dM ps=some bs→aq K T F m ps vs→vs=bs.map V.bl:=by
 intro ps vs bs e q;cases q with
 |nil=>simp[dM]at e;subst e;rfl
 |cons rp rr=>
  cases rp with
  |bl b=>simp only[dM,Option.map_eq_some_iff]at e;obtain⟨b2,e2,rfl⟩:=e;rw[jL e2 rr];rfl
  |_=>simp[dM]at e
def uL(ps:List PV)(h:List PO):Res PV:=match ps with
 |[p]=>match Q9 h p with
  |some xs=>match dM xs with
   |some bs=>.ok (.bl (bs.all id)) h
   |none=>.bad
  |none=>.bad
 |_=>.bad
theorem FZ{e:Expr}{es:List Expr}{f:Ax}(hg:Gl X "all")(hm:X.mg "all"=none)(ha:RA X T Ew (e::es) f)(hc:X.calm=true:=by rfl)
  (he:sE0 X e es:=by rfl) (Mu:sP0 X es pos:=by rfl):
  RE X T Ew (.Call (.Name "all" p0) (e::es) [] pos) (cN uL f):=by with_unfolding_all exact(
  gH (By hc) (by
 intro F m h H xs ps Q Ew R rp w;unfold uL at w
 split at w
 ·rename_i p;obtain⟨x,rfl,rx⟩:=rp.one
  cases e1:Q9 h p with
  |none=>rw[e1]at w;exact w.elim
  |some ys=>
   rw[e1]at w
   cases e2:dM ys with
   |none=>simp only[e2]at w;exact w.elim
   |some bs=>simp only[e2]at w;obtain⟨a,vs,rfl,ea,ra⟩:=fO R rx e1;have ev:=jL e2 ra;subst ev;exact⟨a,bs,rfl,ea,aS w R (.bl _)⟩
 ·exact w.elim) hg hm (by decide+kernel) ha (by decide) (by decide) he Mu)
theorem wk{K:W.Frag}{F:Hp}{m:List Addr}:∀ls:List (List Nat),aq K T F m (ls.map PV.str) (ls.map fun l=>V.str (S l))
 |[]=>.nil
 |l::r=>.cons (.str l) (wk r)
end
end L3
namespace L2
open PySem PySem.Spec PyProof.Rows PySem.Builtin
end L2
namespace L3
open PySem PySem.Spec PyProof.Rows L2
end L3
namespace L2
open PySem PySem.Spec PyProof.Rows
end L2
namespace L3
open PySem PySem.Spec PyProof.Rows L2
section
variable{X:Cx}{T:Tab}{Ew:VK}{pos Sw:Pos}
theorem ur{elt iter:Expr}{x y:Str}{px py:Pos}{ifs:List Expr}{scope:Scope}{it:Ax}{tt:Tx}{te:Ex}{M:List Str}{iy:Nat}(j6:List Nat)(NP:X.calm=true)(S:hG X.N X.env.scope scope j6 x M)
  (hi:RI X T Ew (.Name x px) iter it) (ht:∀cl C ex s H,Wc (dF X M scope cl C ex s H) T Ew ifs tt) (he:∀cl C ex s H,RE (dF X M scope cl C ex s H) T Ew elt te)
  (W7:X.N.Nodup) (hy:X.N[iy]? =some y) (V9:X.env.scope.names.lookup y=some .local) (WQ:swapsWith (.ListComp elt [⟨.Name x px,iter,ifs,0⟩] scope pos) (some (.Name y py)) Sw.line X.env=pure true)
  (hs:∀y,foldedSetIterable iter X.env y=pure y:=by intro _;rfl):RS X T Ew (.Assign [.Name y py] (.ListComp elt [⟨.Name x px,iter,ifs,0⟩] scope pos) Sw) (aC iy (cN QH (bG j6 it tt te))):=by with_unfolding_all exact(
 PS.imp (nP (tt:=wT X T Ew tt) (te:=wE X T Ew te) j6 NP S hi ht he W7 hy V9 WQ hs) fun D σ H ⟨F,m,ρ,h,R,p⟩=>lM (fun F m h H ps vs R r w D hD=>eR w R r D hD)
  ⟨F,m,ρ,h,R,(ge p).mono (by rintro v H1 ⟨F1,m1,h1,q,s1,R1,r1,w1⟩;exact w1 F1 m1 H1 _ .refl ⟨R1,(s1.env R.env).set iy r1⟩)⟩)
theorem sx{elt iter:Expr}{x y:Str}{px py:Pos}{ifs:List Expr}{scope:Scope}{it:Ax}{tt:Tx}{te:Ex}{M:List Str}{iy:Nat}(j6:List Nat)(NP:X.calm=true)(S:hG X.N X.env.scope scope j6 x M)
  (hi:RI X T Ew (.Name x px) iter it) (ht:∀cl C ex s H,Wc (dF X M scope cl C ex s H) T Ew ifs tt) (he:∀cl C ex s H,RE (dF X M scope cl C ex s H) T Ew elt te)
  (W7:X.N.Nodup) (hy:X.N[iy]? =some y) (V9:X.env.scope.names.lookup y=some .local) (WQ:swapsWith (.ListComp elt [⟨.Name x px,iter,ifs,0⟩] scope pos) (some (.Name y py)) Sw.line X.env=pure true)
  (hs:∀y,foldedSetIterable iter X.env y=pure y:=by intro _;rfl):RS X T Ew (.Assign [.Name y py] (.ListComp elt [⟨.Name x px,iter,ifs,0⟩] scope pos) Sw) (aC iy (cN lg (bG j6 it tt te))):=by with_unfolding_all exact(
 PS.imp (nP (tt:=wT X T Ew tt) (te:=wE X T Ew te) j6 NP S hi ht he W7 hy V9 WQ hs) fun D σ H ⟨F,m,ρ,h,R,p⟩=>lM (fun F m h H ps vs R r w D hD=>kX w R r D hD)
  ⟨F,m,ρ,h,R,(ge p).mono (by rintro v H1 ⟨F1,m1,h1,q,s1,R1,r1,w1⟩;exact w1 F1 m1 H1 _ .refl ⟨R1,(s1.env R.env).set iy r1⟩)⟩)
def jq(v o i:PV)(ρ:Ev)(h:List PO):SR:=match sX h o,i with
 |some (n,xs),.int k=>match SM xs.length k with
  |some j=>.nx ρ (h.set n (.lst (xs.set j v)))
  |none=>.bad
 |_,_=>.bad
def kj(fo fi fv:Ex):Sx:=fun ρ h=>dq (fv ρ h) fun v h1=>dq (fo ρ h1) fun o h2=>dq (fi ρ h2) fun i h3=>jq v o i ρ h3
theorem zC{o i v:Expr}{fo fi fv:Ex}{px:Pos}(ho:RE X T Ew o fo)(hi:RE X T Ew i fi)(hv:RE X T Ew v fv)
  (ha:∀u,assign (.Subscript o i px) X.env u=(do
   let ov ← holding [u] (eval o X.env)
   let iv ← holding [u,ov] (eval i X.env)
   standAt px
   holding [u,ov,iv] (setItem ov iv u)
   release [u,ov,iv] []):=by intro _;rfl)
  (hs:swapsWithSole [.Subscript o i px] v pos.line X.env=pure false:=by rfl) (hw:swappedStores [.Subscript o i px] v X.env=pure none:=by rfl)
  (h1:(assignEach [.Subscript o i px] X.env).map (·.2)=[assign (.Subscript o i px) X.env]:=by rfl):RS X T Ew (.Assign [.Subscript o i px] v pos) (kj fo fi fv):=by with_unfolding_all
 refine PS.imp (Ac hv (Gp ho hi zp ha) hs hw h1) ?_;rintro D σ H ⟨F,m,ρ,h,R,p⟩;refine⟨F,m,ρ,h,R,(ge p).mono ?_⟩;rintro v H1 ⟨F1,m1,h1,pv,s1,R1,r1,w1⟩
 refine⟨F1,m1,ρ,h1,R.of s1 R1,(ge w1).mono ?_⟩;rintro o H2 ⟨F2,m2,h2,po,s2,R2,r2,w2⟩;refine⟨F2,m2,ρ,h2,(R.of s1 R1).of s2 R2,(ge w2).mono ?_⟩;rintro i H3 ⟨F3,m3,h3,pi,s3,R3,r3,w3⟩;have Zn:=((R.of s1 R1).of s2 R2).of s3 R3;unfold jq at w3
 split at w3
 ·rename_i n xs k el
  split at w3
  ·rename_i j hj;obtain⟨a,vs,rfl,em,hF,hH,rr⟩:=pU R3 (s3.rep r2) el
   cases r3
   have rv:=s3.rep (s2.rep r1);refine⟨a,vs,k,j,rfl,rfl,hH,by rw[← rr.length];exact hj,?_⟩;obtain⟨st,R'⟩:=R3.upd (o':=.lst (xs.set j pv)) (ho:=.lst (vs.set j v)) em hF ⟨_,hH⟩ ⟨hF,_,aK,rr.set rv j⟩;exact w3 F3 m3 _ _ st ⟨R',st.env Zn.env⟩
  ·exact w3.elim
 ·exact w3.elim
end
inductive JQ where
 |ok (v:PV)|exc (C:Nat)|bad
section
variable{X:Cx}{T:Tab}{Ew:VK}{a b e:Expr}{es:List Expr}{fa fb:Ex}{fs:Ax}{pos:Pos}
def gm(p q:PV)(h:List PO):Res PV:=match RJ h p,RJ h q with
 |some a,some b=>if a.length+b.length≤sizeLine then .ok (.ref h.length) (h++ [.lst (a++b)])else .bad
 |_,_=>.bad
theorem yc{K:W.Frag}{T:Tab}:eZ K T (wq K) gm:=by
 intro F m h H x y p q Q Ew R rp rq w;unfold gm at w
 split at w
 ·rename_i a b e1 e2
  split at w
  ·rename_i hz;obtain⟨pa,va,rfl,ea,ra⟩:=iW R rp e1;obtain⟨pb,vb,rfl,eb,rb⟩:=iW R rq e2;exact .inr (.inr (.inr (.inr ⟨pa,pb,va,vb,rfl,rfl,ea,eb,by rw[← ra.length,← rb.length];exact hz,kX w R (ra.append rb)⟩)))
  ·exact w.elim
 ·exact w.elim
theorem CH(ha:RE X T Ew a fa)(hb:RE X T Ew b fb):RE X T Ew (.BinOp a .Add b pos) (c2 gm fa fb):=by with_unfolding_all exact(
  nJ qQ yc ha hb)
end
def uJ(p q:PV)(h:List PO):Res PV:=match p with
 |.dct _=>(match q with
  |.str _=>.ok (.bl false) h
  |_=>.bad)
 |p=>m9 p q h
section
variable{X:Cx}
theorem tJ(l:Addr)(es:Array DictEntry)(n:Nat)(dd:Option Addr)(sl:Array (Option Value))(z:Str)(u:Tok):
  Meets (Builtin.«dict.__eq__» ⟨[.ref l,.str z u],[]⟩) (fun _ R s=>s.heap.get? l=some { cls:=.type "dict",dict:=dd,data:=.dict es n,slots:=sl }∧R (.ok (.ret .notImplemented)) s):=
 .of_wp fun prog w A R s h=>by
  obtain⟨hp,g,d,tk,os⟩:=s;obtain⟨hl,h⟩:=h;have f1:=PySem.F.sub_str_dict
  wp_walk using PySem.AutoSeq1.wpAny_loadPart' hl
  exact⟨_,rfl,h⟩
theorem sn(l:Addr)(es:Array DictEntry)(n:Nat)(dd:Option Addr)(sl:Array (Option Value))(z:Str)(u:Tok):
  Meets (Builtin.«str.__eq__» ⟨[.str z u,.ref l],[]⟩) (fun _ R s=>s.heap.get? l=some { cls:=.type "dict",dict:=dd,data:=.dict es n,slots:=sl }∧R (.ok (.ret .notImplemented)) s):=
 .of_wp fun prog w A R s h=>by
  obtain⟨hp,g,d,tk,os⟩:=s;obtain⟨hl,h⟩:=h
  wp_walk using PySem.AutoSeq1.wpAny_loadPart' hl,wpAny_load hl
  exact⟨_,rfl,h⟩
def IJ(K:W.Frag):R2:=fun x y H Q=>zW K false x y H Q∨∃a kvs z,x=.ref a∧y=.str z∧Rd H a (.dK kvs)∧Q (.bl false) H
theorem GM(hu:X.A.units+64<cLine):Ng X (compareOp .Eq) (IJ X.K):=Ng.or (uO hu) (by
 intro pins s σ H x y v u Q I rx ry h;obtain⟨a,kvs,z,rfl,rfl,rd,q⟩:=h
 cases rx
 obtain⟨t,rfl⟩:=ry;obtain⟨_,_,vs,_,o,es,ep,h1,h2,h3,_⟩:=gP I.hok rd;obtain⟨oc,od,Z0,Ud⟩:=o;have hc:oc=.type "dict":=h2.1;dsimp only at h3;subst hc h3;show wpAny _ _ (richCompare .Eq _ _) _ _ _
 exact SeqAt.rc_eq_decline_or (k:=false) ⟨_,h1,rfl⟩ (typeIs_str s z t) (by decide) PySem.F.sub_str_dict PySem.F.slot_dict_eq PySem.F.slot_str_eq_refl
  (fun _ hq=>call_meets PySem.F.slot_dict_eq ⟨_,h1,rfl⟩ PySem.F.entry_dict_eq (PySem.F.args_dict_eq_2 _ _) (tJ a _ _ _ _ z t) ⟨h1,hq⟩)
  (fun _ hq=>call_meets PySem.F.slot_str_eq_refl (typeIs_str s z t) PySem.F.entry_str_eq (PySem.F.args_str_eq_2 _ _) (sn a _ _ _ _ z t) ⟨h1,hq⟩)
  (fun _ hq=>wpAny_of_eq (rfl:isSame (.ref a) (.str z t)=pure false) hq) (.inr (by omega)) ⟨.bl false,H,I,rfl,q⟩)
theorem Ai{K:W.Frag}{T:Tab}:eZ K T (IJ K) uJ:=by
 intro F m h H x y p q Q Ew R rp rq w;unfold uJ at w
 split at w
 ·split at w
  ·cases rq
   cases rp with
   |dct e k r=>exact .inr ⟨_,_,_,rfl,rfl,.inr ⟨_,R.same _ _ e⟩,aS w R (.bl _)⟩
  ·exact w.elim
 ·exact .inl (qM F m h H x y _ q Q Ew R rp rq w)
end
section
variable{K:W.Frag}{T:Tab}{F H:Hp}{m:List Addr}{h:List PO}
theorem RelH.lt{i:Nat}{a:Addr}(R:RelH K T F m h H)(em:m[i]? =some a):i<h.length:=by
 rw[R.len];rcases Nat.lt_or_ge i m.length with q|q
 ·exact q
 ·rw[List.getElem?_eq_none q]at em;cases em
theorem RelH.inj{i j:Nat}{a:Addr}(R:RelH K T F m h H)(e1:m[i]? =some a)(e2:m[j]? =some a):i=j:=by
 have h1:i<m.length:=by rw[← R.len];exact R.lt e1
 have h2:j<m.length:=by rw[← R.len];exact R.lt e2
 rw[List.getElem?_eq_getElem h1,Option.some.injEq]at e1;rw[List.getElem?_eq_getElem h2,Option.some.injEq]at e2;exact(List.getElem_inj R.nd).mp (e1.trans e2.symm)
theorem Bl{i:Nat}{a:Addr}{u:HO}{p:PV}(R:RelH K T F m h H)(em:m[i]? =some a)(hF:F a=none)(hH:∃o,H a=some o)(hp:p.pure=true)(r:aL K T (upd F a u) m p (.ref a)):
  bf F m H (upd F a u) m (upd H a u)∧RelH K T (upd F a u) m (h.set i (.o9 p)) (upd H a u):=by
 have hi:=R.lt em;have am:a∈m:=List.mem_of_getElem? em;have sF:cy F (upd F a u):=eQ hF u;refine⟨⟨sF,⟨[],by simp⟩,fun b o e nb=>?_,fun b o e=>?_,fun j c hj e=>(by rw[List.getElem?_eq_none hj]at e;cases e),fun c o e=>?_⟩,?_⟩
 ·have:b≠a:=fun z=>nb (by rw[z];exact am);rw[aj this];exact e
 ·by_cases hb:b=a
  ·subst hb;exact⟨u,aK⟩
  ·exact⟨o,by rw[aj hb];exact e⟩
 ·by_cases hc:c=a
  ·subst hc;exact .inr (.inr am)
  ·rw[aj hc]at e;exact .inl e
 ·refine⟨fun b o e=>?_,by rw[List.length_set];exact R.len,fun j ob c e1 e2=>?_,R.nd⟩
  ·by_cases hb:b=a
   ·subst hb;rw[aK]at e ⊢;exact e
   ·rw[aj hb]at e ⊢;exact R.same b o e
  ·by_cases hj:i=j
   ·subst hj;rw[List.getElem?_set_self hi]at e1
    cases e1
    rw[em]at e2;cases e2;exact⟨r,hp,u,aK⟩
   ·rw[List.getElem?_set_ne hj]at e1;have hc:c≠a:=fun z=>by subst z;exact hj (R.inj em e2)
    have q:=R.obj j ob c e1 e2
    cases ob with
    |lst xs=>obtain⟨f,vs,z,rr⟩:=q;exact⟨by rw[aj hc];exact f,vs,by rw[aj hc];exact z,rr.mono sF fun _ _ h=>h⟩
    |dct xs=>obtain⟨f,vs,z,k,rr⟩:=q;exact⟨by rw[aj hc];exact f,vs,by rw[aj hc];exact z,k,rr.mono sF fun _ _ h=>h⟩
    |o9 q'=>obtain⟨r1,r2,o,r3⟩:=q;exact⟨r1.mono sF fun _ _ h=>h,r2,o,sF _ _ r3⟩
end
noncomputable def cG(h:List PO):PV→Option (Nat×List (PK×PV))
 |.ref i=>match h[i]? with
  |some (.dct kvs)=>some (i,kvs)
  |_=>none
 |_=>none
def XH(h:List PO)(p:PV):Option (PV×List PO):=match cG h p with
 |some (i,kvs)=>if gc kvs=true then some (.dct kvs,h.set i (.o9 (.dct kvs)))else none
 |none=>cC h p
def U_(p:PV)(h:List PO):Res PV:=match XH h p with
 |some (q,h2)=>.ok q h2
 |none=>.bad
def Va(f:Ex):Ex:=fun ρ h=>(f ρ h).bind U_
section
variable{K:W.Frag}{T:Tab}{F H:Hp}{m:List Addr}{h:List PO}{p:PV}{x:V}
theorem gx{i:Nat}{kps:List (PK×PV)}(R:RelH K T F m h H)(r:aL K T F m p x)(e:cG h p=some (i,kps)):∃a kvs,x=.ref a∧m[i]? =some a∧F a=none∧H a=some (.dK kvs)∧dy K T F m kps kvs:=by
 unfold cG at e
 split at e
 ·rename_i j
  split at e
  ·rename_i kvs q
   cases e
   cases r with
   |@ref _ a em=>obtain⟨f,vs,e1,k,rr⟩:=R.obj _ _ a q em;exact⟨a,vs,rfl,em,f,e1,k,rr⟩
  ·cases e
 ·cases e
end
section
variable{X:Cx}{T:Tab}{Ew:VK}{a b e o k v:Expr}{fa fb fo fk fv:Ex}{pos px:Pos}
theorem Ix(ha:RE X T Ew a fa):RE X T Ew a (Va fa):=by with_unfolding_all
 refine PE.imp (EF ha) ?_;rintro σ H Q ⟨F,m,ρ,h,R,p⟩;refine⟨F,m,ρ,h,R,(aG.bind p).mono ?_⟩;rintro x H1 ⟨F1,m1,h1,p1,s1,R1,r1,w1⟩
 unfold U_ XH at w1
 cases z:cG h1 p1 with
 |none=>
  rw[z]at w1;dsimp only at w1
  cases y:cC h1 p1 with
  |none=>rw[y]at w1;exact w1.elim
  |some ab=>obtain⟨q,h2⟩:=ab;rw[y]at w1;obtain⟨F2,s2,R2,r2,_⟩:=jH R1 r1 y;exact .inl (w1 F2 m1 H1 x s2 R2 r2)
 |some ab=>
  obtain⟨i,kps⟩:=ab;rw[z]at w1;dsimp only at w1
  by_cases hp:gc kps=true
  ·rw[if_pos hp]at w1;obtain⟨a,kvs,rfl,em,hF,hH,kk,rr⟩:=gx R1 r1 z;refine .inr ⟨a,kvs,hH,fun ob=>?_⟩;have rl:aL X.K T (L2.upd F1 a (.Py ob (.dK kvs))) m1 (.dct kps) (.ref a):=.dct aK kk (rr.mono (eQ hF _) fun _ _ h=>h);have pp:(PV.dct kps).pure=true:=by simpa[PV.pure]using hp
   obtain⟨s2,R2⟩:=Bl R1 em hF ⟨_,hH⟩ pp rl;exact w1 _ m1 _ _ s2 R2 rl
  ·rw[if_neg hp]at w1;exact w1.elim
theorem pN{K:W.Frag}{F H:Hp}{m:List Addr}{h:List PO}{Q:VK}{kps:List (PK×PV)}{kvs:List (Key×V)}(w:aG K T (aL K T) F m H Q Ew (.ok (.ref h.length) (h++ [.dct kps])))(R:RelH K T F m h H)(r:dy K T F m kps kvs):∀p,H p=none→Q (.ref p) (upd H p (.dK kvs)):=fun p hp=>by
 have hF:F p=none:=R.same.free hp;have hm:p∉m:=R.fresh hp
 have st:bf F m H F (m++ [p]) (upd H p (.dK kvs)):=by
  refine⟨cy.refl _,⟨[p],rfl⟩,fun b o e _=>by rw[aj (aE e hp)];exact e,fun b o e=>⟨o,by rw[aj (aE e hp)];exact e⟩,fun i a hi e=>?_,fun a o e=>.inl e⟩;rw[List.getElem?_append_right hi]at e
  cases q:i - m.length with
  |zero=>rw[q]at e;simp at e;rw[← e];exact hp
  |succ n=>rw[q]at e;simp at e
 refine w F (m++ [p]) _ (.ref p) st ⟨fun b o e=>?_,by simp[R.len],fun i ob c e1 e2=>?_,?_⟩ (.ref (by rw[R.len,List.getElem?_append_right (Nat.le_refl _)];simp))
 ·have:=R.same b o e;rw[aj (aE this hp)];exact this
 ·by_cases hi:i<h.length
  ·rw[List.getElem?_append_left hi]at e1;have R6:i<m.length:=by rw[← R.len];exact hi
   rw[List.getElem?_append_left R6]at e2;have hc:c≠p:=fun z=>hm (by rw[← z];exact List.mem_of_getElem? e2);have q:=R.obj i ob c e1 e2
   cases ob with
   |lst xs=>obtain⟨f,vs,z,rr⟩:=q;exact⟨f,vs,by rw[aj hc];exact z,st.reps rr⟩
   |dct xs=>obtain⟨f,vs,z,k,rr⟩:=q;exact⟨f,vs,by rw[aj hc];exact z,k,st.reps rr⟩
   |o9 q'=>obtain⟨r1,r2,o,r3⟩:=q;exact⟨st.rep r1,r2,o,r3⟩
  ·have XD:h.length≤i:=Nat.le_of_not_lt hi;rw[List.getElem?_append_right XD]at e1;have YS:m.length≤i:=by rw[← R.len];exact XD
   rw[List.getElem?_append_right YS]at e2;rw[R.len]at e1
   cases q:i - m.length with
   |zero=>rw[q]at e1 e2;simp at e1 e2;subst e1 e2;exact⟨hF,kvs,aK,r.1,st.reps r.2⟩
   |succ n=>rw[q]at e1;simp at e1
 ·rw[List.nodup_append];exact⟨R.nd,by simp,fun x hx y hy=>by simp at hy;subst hy;intro z;subst z;exact hm hx⟩
noncomputable def tU:Ex:=fun _ h=>.ok (.ref h.length) (h++ [.dct []])
theorem Cy:RE X T Ew (.Dict [] [] pos) tU:=by with_unfolding_all exact(
  PE.imp Aw (by rintro σ H Q ⟨F,m,ρ,h,R,p⟩;exact pN p R.toRelH .nil))
def sv(v o i:PV)(ρ:Ev)(h:List PO):SR:=match cG h o,eS i with
 |some (n,kps),some k=>if kps.length<sizeLine then .nx ρ (h.set n (.dct (kT kps k v)))else .bad
 |_,_=>.bad
def nG(fo fi fv:Ex):Sx:=fun ρ h=>dq (fv ρ h) fun v h1=>dq (fo ρ h1) fun o h2=>dq (fi ρ h2) fun i h3=>sv v o i ρ h3
theorem Cj(hu:X.A.units+64<cLine)(ho:RE X T Ew o fo)(hk:RE X T Ew k fk)(hv:RE X T Ew v fv)(hs:swapsWith v (some (.Subscript o k px)) pos.line X.env=pure false:=by rfl):
  RS X T Ew (.Assign [.Subscript o k px] v pos) (nG fo fk fv):=by with_unfolding_all
 refine PS.imp (CQ (by omega) ho hk hv hs) ?_;rintro D σ H ⟨F,m,ρ,h,R,p⟩;refine⟨F,m,ρ,h,R,(ge p).mono ?_⟩;rintro v H1 ⟨F1,m1,h1,pv,s1,R1,r1,w1⟩
 refine⟨F1,m1,ρ,h1,R.of s1 R1,(ge w1).mono ?_⟩;rintro o H2 ⟨F2,m2,h2,po,s2,R2,r2,w2⟩;refine⟨F2,m2,ρ,h2,(R.of s1 R1).of s2 R2,(ge w2).mono ?_⟩;rintro i H3 ⟨F3,m3,h3,pi,s3,R3,r3,w3⟩;have Zn:=((R.of s1 R1).of s2 R2).of s3 R3;unfold sv at w3
 split at w3
 ·rename_i n kps kk el ek
  split at w3
  ·rename_i hz;obtain⟨a,kvs,rfl,em,hF,hH,rr⟩:=gx R3 (s3.rep r2) el;have SX:=fI r3 ek;subst SX;have rv:=s3.rep (s2.rep r1);have hl:kvs.length=kps.length:=by have:=congrArg List.length rr.1;simpa using this
   refine⟨a,_,rfl,BM.k hH (by rw[hl];exact hz),?_⟩;have rp:=dy.put (k:=kk) rr rv;obtain⟨st,R'⟩:=R3.upd (o':=.dct (kT kps kk pv)) (ho:=.dK (iS kvs (tk kk) v)) em hF ⟨_,hH⟩ ⟨hF,_,aK,rp.1,rp.2⟩;exact w3 F3 m3 _ _ st ⟨R',st.env Zn.env⟩
  ·exact w3.elim
 ·exact w3.elim
noncomputable def oB(kps:List (PK×PV))(k:PK):List (PK×PV):=kps.filter fun kv=>decide (kv.1≠k)
theorem dy.drop{K:W.Frag}{F:Hp}{m:List Addr}(k:PK):∀{kps:List (PK×PV)}{kvs:List (Key×V)},dy K T F m kps kvs→dy K T F m (oB kps k) (lH kvs (tk k)):=by
 intro kps
 induction kps with
 |nil=>
  intro kvs h;obtain⟨h1,h2⟩:=h
  cases kvs with
  |nil=>exact .nil
  |cons _ _=>simp at h1
 |cons p r ih=>
  intro kvs h;obtain⟨h1,h2⟩:=h
  cases kvs with
  |nil=>simp at h1
  |cons q s=>
   simp only[List.map_cons,List.cons.injEq]at h1;simp only[List.map_cons]at h2
   cases h2 with
   |cons r1 r2=>
    obtain⟨i1,i2⟩:=ih ⟨h1.2,r2⟩
    by_cases hk:p.1=k
    ·have hq:q.1=tk k:=by rw[h1.1,hk]
     simp only[oB,lH,List.filter_cons,hk,hq,ne_eq,not_true_eq_false,decide_false,Bool.false_eq_true,if_false];exact⟨i1,i2⟩
    ·have hq:q.1≠tk k:=fun z=>hk (qD (by rw[← h1.1,z]));simp only[oB,lH,List.filter_cons,hk,hq,ne_eq,not_false_eq_true,decide_true,if_true,List.map_cons];exact⟨List.cons_eq_cons.mpr ⟨h1.1,i1⟩,.cons r1 i2⟩
end
end L3
namespace L2
open PySem PySem.Spec PyProof.Rows
end L2
namespace L3
open PySem PySem.Spec PyProof.Rows L2
noncomputable def lD:PK→PV
 |.inl i=>.int i
 |.inr l=>.str l
theorem pX{K:W.Frag}{T:Tab}{F:Hp}{m:List Addr}(k:PK):aL K T F m (lD k) (kV (tk k)):=by
 cases k with
 |inl i=>exact .int i
 |inr l=>exact .str l
theorem DO{K:W.Frag}{T:Tab}{F H:Hp}{m:List Addr}{a:Addr}{o:Obj}{kps:List (PK×PV)}{kvs:List (Key×V)}(e:F a=some (.Py o (.dK kvs)))(k:kvs.map (·.1)=kps.map (fun p=>tk p.1)):rP K T (Zr a o kvs) (kps.map fun p=>lD p.1) F m H:=by
 have hl:kvs.length=kps.length:=by have:=congrArg List.length k;simpa using this
 have at':∀{F1:Hp}{m1:List Addr}{h1:List PO}{H1:Hp},bf F m H F1 m1 H1→RelH K T F1 m1 h1 H1→H1 a=some (.Py o (.dK kvs)):=fun s R=>R.same _ _ (s.fz _ _ e);refine⟨fun i F1 m1 h1 H1 s R hi=>⟨at' s R,by rw[hl];simpa using hi⟩,fun i F1 m1 h1 H1 v H2 s R hi y=>?_,fun F1 m1 h1 H1 s R=>⟨at' s R,by rw[hl];simp⟩⟩;obtain⟨rfl,kk,vv,ek,rfl⟩:=y;have R6:i<kps.length:=by simpa using hi
 have e1:kk=tk kps[i].1:=by have:=congrArg (fun l=>l[i]?) k;simp only[List.getElem?_map,ek,List.getElem?_eq_getElem R6,Option.map_some,Option.some.injEq]at this;exact this
 subst e1;exact⟨F1,m1,lD kps[i].1,.refl,R,by simp[R6],pX _⟩
def jt(p:PV)(h:List PO):Res (List PV):=match p with
 |.dct kps=>.ok (kps.map fun p=>lD p.1) h
 |p=>ju p h
def lT(f:Ex):Ax:=fun ρ h=>(f ρ h).bind jt
section
variable{X:Cx}{T:Tab}{Ew:VK}{tg a b e o:Expr}{fa fb fo:Ex}{pos p0:Pos}
theorem Cq(ha:RE X T Ew a fa):RI X T Ew tg a (lT fa):=by with_unfolding_all
 intro pins s σ H R I ⟨F,m,ρ,h,RR,p⟩
 by_cases hd:∃kps h1,fa ρ h=.ok (.dct kps) h1
 ·obtain⟨kps,h1,q⟩:=hd;refine Dd ha pins s σ H R I ⟨F,m,ρ,h,RR,?_⟩;unfold lT at p;rw[q]at p ⊢;intro F1 m1 H1 x s1 R1 r1;have w1:=aG.step s1 (show aG X.K T _ F m H R Ew (jt (.dct kps) h1)from p)
  cases r1 with
  |dct ef kk rr=>exact⟨_,_,_,rfl,R1.same _ _ ef,aG.here w1 R1 fun H=>DO ef kk⟩
 ·have e:lT fa ρ h=eY fa ρ h:=by
   unfold lT eY
   cases q:fa ρ h with
   |bad=>rfl
   |exc _ _=>rfl
   |ok p1 h1=>
    show jt p1 h1=ju p1 h1;unfold jt
    split
    ·exact absurd ⟨_,_,q⟩ hd
    ·rfl
  rw[e]at p;exact zG ha pins s σ H R I ⟨F,m,ρ,h,RR,p⟩
end
end L3
namespace L2
open PySem PySem.Spec PyProof.Rows
theorem KV.WL{kvs:List (Key×V)}{vs:List (Key×Value)}(r:KV kvs vs):kvs.map (·.1)=vs.map (·.1):=by
 unfold KV at r
 induction r with
 |nil=>rfl
 |cons h t ih=>simp[ih,h.1]
end L2
namespace L3
open PySem PySem.Spec PyProof.Rows L2
end L3
namespace L2
open PySem PySem.Spec PyProof.Rows
noncomputable def kN(l:List (List Nat)):List (List Nat):=l.mergeSort fun a b=>decide (a≤b)
theorem nC(l:List (List Nat)):(kN l).Perm l:=List.mergeSort_perm _ _
theorem ul(l:List (List Nat)):(kN l).Pairwise (· ≤ ·):=by
 have:=List.pairwise_mergeSort (le:=fun a b:List Nat=>decide (a≤b)) (fun a b c h1 h2=>by
  simp only[decide_eq_true_eq]at h1 h2 ⊢;exact List.le_trans h1 h2) (fun a b=>by
  simp only[Bool.or_eq_true,decide_eq_true_eq];exact List.le_total a b) l
 exact this.imp fun h=>by simpa using h
theorem mE:∀(l:List Str)(p:Str),risingS p l=true→((p::l).map (·.cps.toList)).Pairwise (· ≤ ·)
 |[],p,_=>by simp
 |x::r,p,h=>by
  simp only[risingS,Bool.and_eq_true,Bool.not_eq_true',ltCps_eq,decide_eq_false_iff_not]at h;have ih:=mE r x h.2;have px:p.cps.toList≤x.cps.toList:=List.not_lt.mp h.1;rw[List.map_cons,List.pairwise_cons];refine⟨fun y hy=>?_,ih⟩;rw[List.map_cons,List.mem_cons]at hy;rw[List.map_cons,List.pairwise_cons]at ih;rcases hy with rfl|hy
  ·exact px
  ·exact List.le_trans px (ih.1 y hy)
theorem su{l:List Str}(h:sortedS l=true):(l.map (·.cps.toList)).Pairwise (· ≤ ·):=by
 cases l with
 |nil=>simp
 |cons x r=>exact mE r x h
theorem xN{l:List Str}{ks:List (List Nat)}(p:(l.map (·.cps.toList)).Perm ks)(h:sortedS l=true):l.map (·.cps.toList)=kN ks:=
 List.Perm.eq_of_pairwise (fun a b _ _ h1 h2=>List.le_antisymm h1 h2) (su h) (ul ks) (p.trans (nC ks).symm)
section
variable{X:Cx}
theorem xI{P:Program}{w:World}{vs:List Value}{ks:List (List Nat)}(l:vs.length=ks.length)(h:∀(j:Nat)(v:Value)(k:List Nat),vs[j]? =some v→ks[j]? =some k→mG (.inr ⟨k.toArray⟩) v=true):StrsAre vs (ks.map fun k=>⟨k.toArray⟩):=by
 induction vs generalizing ks with
 |nil=>cases ks with
  |nil=>exact .nil
  |cons _ _=>simp at l
 |cons v r ih=>cases ks with
  |nil=>simp at l
  |cons k ks=>
   rcases bJ (h 0 v k rfl rfl)with⟨i,t,e,_⟩|⟨x,t,e,rfl⟩
   ·cases e
   ·cases e
    exact .cons _ t (ih (by simpa using l) fun j v k e1 e2=>h (j+1) v k (by simpa using e1) (by simpa using e2))
theorem pA:∀{vs:List Value}{ss:List Str},StrsAre vs ss→aR (ss.map V.str) vs
 |_,_,.nil=>.nil
 |_,_,.cons y t r=>.cons ⟨t,rfl⟩ (pA r)
theorem xK(x:Str):(⟨x.cps.toList.toArray⟩:Str)=x:=by cases x;simp
theorem Inv.WK{pins:List (Addr×Obj)}{σ:St}{H:Hp}{s:Shared}{h':Heap}{a:Addr}{o:HO}{t':Nat}(I:Inv X pins σ H s)(k:∀b u,s.heap.get? b=some u→h'.get? b=some u)(hp:s.heap.get? a=none)(new:H a=none→bN X.prog X.w (upd H a o) h' a o):
  H a=none∧Inv X pins σ (upd H a o) { s with heap:=h',toks:=t' }:=by
 have hn:H a=none:=by
  cases q:H a with
  |none=>rfl
  |some u=>obtain⟨ob,e⟩:=(I.hok a u q).there;rw[hp]at e;cases e
 have ne:∀b u,s.heap.get? b=some u→b≠a:=fun b u e z=>by rw[z,hp]at e;cases e
 refine⟨hn,I.un ⟨fun b u q _ _ _=>k b u q,fun b u q _ _ _=>⟨u.slots,k b u q⟩,fun b u q n _=>by rw[aj (ne b u q)];exact n,fun b u q _=>⟨u,k b u q⟩,fun b xs q=>by rw[aj (aE q hn)];exact q,fun b u xs q=>by rw[aj (aE q hn)];exact q,fun b ps q=>⟨#[],by rw[aj (aE q hn),q];simp⟩⟩ fun b u e=>?_⟩
 by_cases hb:b=a
 ·subst hb;rw[aK]at e;cases e;exact new hn
 ·rw[aj hb]at e;exact(I.hok b u e).stay (fun c v _ q=>k c v q) (fun c q=>by rw[aj (aE q hn)];exact q) fun c xs q=>by rw[aj (aE q hn)];exact q
theorem tS(hc:X.calm=true):cY X (.builtin "sorted") (fun xs H Q=>∃d kvs ks,xs= [.ref d]∧Rd H d (.dK kvs)∧kvs.map (·.1)=ks.map (fun k:List Nat=>(Sum.inr ⟨k.toArray⟩:Key))∧kvs.length<64∧∀p,H p=none→Q (.ref p) (upd H p (.lst ((kN ks).map fun k=>V.str ⟨k.toArray⟩)))):=by
 intro pins s σ H xs us Q I r h;obtain⟨d,kvs,ks,rfl,rd,ek,h64,q⟩:=h;obtain⟨u,rfl,ru⟩:=r.one
 cases(show u=Value.ref d from ru)
 obtain⟨hz,sm,vs,rk,dd⟩:=gP I.hok rd;obtain⟨ep,da⟩:=dd.dictAt;have lk:kvs.length=ks.length:=by have:=congrArg List.length ek;simpa using this
 have lv:kvs.length=vs.length:=rk.length;refine Calls.call_function_entry kind_sorted plain_sorted entry_sorted (args_sorted1 _) ?_;unfold Builtin.«sorted»;refine wpAny_bind (m:=checkCount "sorted" 1 1 _) (wpAny_pure (wpAny_bind (W.kdu_collect (W.kdl_dict (knd:=aY X.prog X.w) (kvs:=vs) (ep:=ep) sm) (I.ok.hd hc) da (by omega) fun h1 tk acc k1 ia=>?_)));have la:acc.toList.length=vs.length:=by rw[Array.length_toList];exact ia.1
 have hS:StrsAre acc.toList (ks.map fun k=>⟨k.toArray⟩):=xI (P:=X.prog) (w:=X.w) (by omega) fun j v k e1 e2=>by
  obtain⟨k',x,e3,hk⟩:=ia.2 j v (by rw[← Array.getElem?_toList];exact e1);have z:(vs.map (·.1))[j]? =some (Sum.inr ⟨k.toArray⟩):=by rw[← rk.WL,ek,List.getElem?_map,e2];rfl
  rw[List.getElem?_map,e3]at z
  cases z
  exact hk
 refine wpAny_bind (wpAny_newList ?_ (by omega));have ho:(h1.push (seqObj "list" acc.toList.toArray 0)).get? h1.objs.size=some (seqObj "list" acc.toList.toArray 0):=Heap.get?_push_size _ rfl
 have free:s.heap.get? h1.objs.size=none:=by
  cases z:s.heap.get? h1.objs.size with
  |none=>rfl
  |some o=>exact absurd (Heap.lt_size (k1 _ _ z)) (Nat.lt_irrefl _)
 refine wpAny_bind (wpAny_holding (wpAny_call_entry slot_list_sort ⟨_,ho,rfl⟩ entry_list_sort (list_sort_treeK strKind_oneLt ho hS.keysOf (fun v1 v2 rest e=>keyKind_strs (by rw[← e];exact hS)) (by omega) fun st pm so=>⟨_,rfl,?_⟩) (args_list_sort _)));obtain⟨ss,a1,a2,a3⟩:=sorted_out_str hS pm so;obtain⟨ev,W6⟩:=sortedHeap_at (out:=(arrOf st).map (·.2)) ho;have el:ss.map (·.cps.toList)=kN ks:=xN (by have z:=a2.map (fun x:Str=>x.cps.toList);rw[List.map_map]at z;simpa[Function.comp_def]using z) a3
 have ev2:((kN ks).map fun k=>V.str ⟨k.toArray⟩)=ss.map V.str:=by rw[← el,List.map_map];exact List.map_congr_left fun x _=>congrArg V.str (xK x)
 obtain⟨hn,I2⟩:=I.WK (a:=h1.objs.size) (o:=.lst ((kN ks).map fun k=>V.str ⟨k.toArray⟩)) (t':=tk) (h':=sortedHeap (h1.push (seqObj "list" acc.toList.toArray 0)) h1.objs.size acc.toList ((arrOf st).map (·.2)))
  (fun b o e=>by
   have lt:=Heap.lt_size (k1 b o e);rw[sortedHeap_old (Nat.ne_of_lt lt) (by rw[size_push'];exact Nat.lt_succ_of_lt lt)];exact Heap.get?_push_of_some _ (k1 b o e)) free fun _=>by
   refine⟨?_,((arrOf st).map (·.2)).toList,ev,?_,?_⟩
   ·rw[List.length_map,(nC ks).length_eq];omega
   ·rw[ev2];exact pA a1
   ·rw[W6]
 exact wpAny_pure ⟨_,rfl,.ref _,_,I2,rfl,q _ hn⟩
end
noncomputable def oh:Key→PyData
 |.inl i=>.int i
 |.inr x=>.str x
mutual
inductive Uh(H:Hp):V→PyData→Prop where
 |bl (b:Bool):Uh H (.bl b) (.bool b)
 |int (i:Int):Uh H (.int i) (.int i)
 |str (x:Str):Uh H (.str x) (.str x)
 |lst {a:Addr} {xs:List V} {ds:List PyData} (e:Rd H a (.lst xs)) (r:oR H xs ds):Uh H (.ref a) (.list ds)
 |dct {a:Addr} {kvs:List (Key×V)} {Tc:List (PyData×PyData)} (e:Rd H a (.dK kvs)) (k:Tc.map (·.1)=kvs.map (fun p=>oh p.1)) (r:oR H (kvs.map (·.2)) (Tc.map (·.2))):Uh H (.ref a) (.dict Tc)
inductive oR(H:Hp):List V→List PyData→Prop where
 |nil:oR H [] []
 |cons {x:V} {d:PyData} {xs:List V} {ds:List PyData} (r:Uh H x d) (t:oR H xs ds):oR H (x::xs) (d::ds)
end
theorem wM{P:Program}{w:World}{h:Heap}(n:Nat):∀{ks:List (Key×V)}{us:List Value},aR (ks.map fun p=>kV p.1) us→PyData.showableAll (ks.map fun p=>oh p.1)=true→(∀t∈PyData.shownAll (ks.map fun p=>oh p.1),t.length≤sizeLine)→
  ∃as,ReadsAll h us (ks.map fun p=>oh p.1) as∧ReprAllK P w [] h n us (PyData.shownAll (ks.map fun p=>oh p.1))
 |[],_,.nil,_,_=>⟨_,.nil,by rw[List.map_nil,PyData.shownAll];exact .nil⟩
 |k::ks,_,.cons r t,q,z=>by
  rw[List.map_cons,PyData.showableAll,Bool.and_eq_true]at q;rw[List.map_cons,PyData.shownAll]at z ⊢;obtain⟨as,i1,i2⟩:=wM n t q.2 fun y hy=>z y (List.mem_cons_of_mem _ hy);have z0:=z _ (List.mem_cons_self ..);obtain⟨kk,kv⟩:=k
  cases kk with
  |inl i=>
   obtain⟨tt,rfl⟩:=(show∃t,_=Value.int i t from r)
   exact⟨_,.cons (.int i tt) i1,.cons (by dsimp only[oh];rw[PyData.shown];exact .of_is (ReprIs.int tt (by simpa[PyData.showable,oh]using q.1)) _ _ _) i2⟩
  |inr x=>
   obtain⟨tt,rfl⟩:=(show∃t,_=Value.str x t from r)
   dsimp only[oh]at z0;rw[PyData.shown]at z0;exact⟨_,.cons (.str x tt) i1,.cons (by dsimp only[oh];rw[PyData.shown];exact .of_is (ReprIs.str x tt z0) _ _ _) i2⟩
theorem qh{P:Program}{w:World}:∀{es:List DictEntry}{vs:List (Key×Value)}{kvs:List (Key×V)},Pairs (aY P w) es vs→KV kvs vs→aR (kvs.map fun p=>kV p.1) (es.map (·.key))∧aR (kvs.map (·.2)) (es.map (·.val))
 |_,_,_,.nil,g=>by cases g;exact⟨.nil,.nil⟩
 |_,_,_,.cons (e:=e) (kv:=kv) a b c,g=>by
  cases g with|cons h t=>
  obtain⟨i1,i2⟩:=qh c t;refine⟨.cons ?_ i1,.cons ?_ i2⟩
  ·show aX (kV _) _;rw[h.1];exact AY a
  ·show aX _ e.val;rw[b];exact h.2
section
variable{X:Cx}{pins:List (Addr×Obj)}{σ:St}{H:Hp}{s:Shared}
mutual
theorem Uh.sh(I:Inv X pins σ H s):∀{x:V}{d:PyData}{u:Value},Uh H x d→aX x u→d.showable=true→d.shown.length≤sizeLine→∃as bs,Reads s.heap u d as∧ReadAtMost s.heap d.depth bs∧ReprK X.prog X.w bs s.heap d.depth u d.shown
 |_,_,_,.bl b,r,_,_=>by
  cases r
  exact⟨_,[],.bool b,by simp[ReadAtMost],by rw[PyData.shown];exact .of_is (ReprIs.bool b) _ _ _⟩
 |_,_,_,.int i,r,q,_=>by obtain⟨t,rfl⟩:=r;exact⟨_,[],.int i t,by simp[ReadAtMost],by rw[PyData.shown];exact .of_is (ReprIs.int t (by simpa[PyData.showable]using q)) _ _ _⟩
 |_,_,_,.str x,r,_,z=>by obtain⟨t,rfl⟩:=r;rw[PyData.shown]at z;exact⟨_,[],.str x t,by simp[ReadAtMost],by rw[PyData.shown];exact .of_is (ReprIs.str x t z) _ _ _⟩
 |_,_,_,.lst (a:=a) (xs:=xs) (ds:=ds) e rr,r,q,z=>by
  cases r
  obtain⟨_,its,n,rv,g⟩:=(show bN X.prog X.w H s.heap a (.lst xs)from zU I.hok e)
  rw[PyData.showable]at q;rw[PyData.shown]at z ⊢;obtain⟨as,bs,r1,r2,r3⟩:=oR.sh I rr rv q fun t ht=>Nat.le_trans (listText_mem_le ht) z;have whole:Reads s.heap (.ref a) (.list ds) _:=.list g rfl rfl (by simpa using r1);rw[PyData.depth];have deep:PyData.depthAll ds<(PyData.list ds).depth:=by rw[PyData.depth];omega
  have out:=ReadAtMost.cons whole (Nat.le_of_lt deep) r2;rw[PyData.depth]at out;refine⟨_,a::bs,whole,out,?_⟩
  cases its with
  |nil=>
   cases r1
   rw[PyData.shownAll,listText_nil];exact ReprK.listEmpty g rfl rfl
  |cons v vs=>exact ReprK.list g rfl rfl (not_mem_of_deeper whole deep r2) (by simpa using r3.length_eq) fun i y ey=>r3.item i y (by simpa using ey)
 |_,_,_,.dct (a:=a) (kvs:=kvs) (Tc:=Tc) e k rr,r,q,z=>by
  cases r
  obtain⟨_,sm,vs,rk,o,es,ep,g,ex,ed,_,pr,_⟩:=gP I.hok e;rw[PyData.showable]at q;obtain⟨q1,q2⟩:=PyData.showableKv_split Tc q;rw[PyData.shown]at z ⊢;obtain⟨vk,vv⟩:=qh pr rk;rw[k]at q1
  obtain⟨as1,r1,r3⟩:=wM (P:=X.prog) (w:=X.w) (h:=s.heap) (PyData.depthKv Tc) vk q1 fun t ht=>by rw[← k]at ht;obtain⟨p,hp,hl⟩:=PyData.shownKv_key_le Tc t ht;exact Nat.le_trans (Nat.le_trans hl (dictText_mem_le hp)) z
  obtain⟨as2,Zg,t1,t2,t3⟩:=oR.sh I rr vv q2 fun t ht=>by obtain⟨p,hp,hl⟩:=PyData.shownKv_val_le Tc t ht;exact Nat.le_trans (Nat.le_trans hl (dictText_mem_le hp)) z
  rw[← k]at r1 r3;have whole:Reads s.heap (.ref a) (.dict Tc) _:=.dict g ex.1 ed r1 t1;rw[PyData.depth];have deep:PyData.depthKv Tc<(PyData.dict Tc).depth:=by rw[PyData.depth];omega
  have both:=t2.mono (PyData.depthAll_vals_le Tc);have out:=ReadAtMost.cons whole (Nat.le_of_lt deep) both;rw[PyData.depth]at out;refine⟨_,a::Zg,whole,out,?_⟩;rw[PyData.shownKv_eq];exact ReprK.dict g ex.1 ed sm (not_mem_of_deeper whole deep both) (.of_two _ _ _ (r3.more_le (fun b hb=>absurd hb List.not_mem_nil) (Nat.le_refl _)) (t3.more_le (fun b hb=>hb) (PyData.depthAll_vals_le Tc)))
theorem oR.sh(I:Inv X pins σ H s):∀{xs:List V}{ds:List PyData}{us:List Value},oR H xs ds→aR xs us→PyData.showableAll ds=true→(∀t∈PyData.shownAll ds,t.length≤sizeLine)→
  ∃as bs,ReadsAll s.heap us ds as∧ReadAtMost s.heap (PyData.depthAll ds) bs∧ReprAllK X.prog X.w bs s.heap (PyData.depthAll ds) us (PyData.shownAll ds)
 |_,_,_,.nil,g,_,_=>by cases g;exact⟨_,[],.nil,by simp[ReadAtMost],by rw[PyData.shownAll];exact .nil⟩
 |_,_,_,.cons (d:=d) (ds:=ds) r t,g,q,z=>by
  cases g with|cons h hs=>
  rw[PyData.showableAll,Bool.and_eq_true]at q;rw[PyData.shownAll]at z ⊢;obtain⟨as1,bs1,r1,r2,r3⟩:=Uh.sh I r h q.1 (z _ (List.mem_cons_self ..));obtain⟨as2,Zg,t1,t2,t3⟩:=oR.sh I t hs q.2 fun y hy=>z y (List.mem_cons_of_mem _ hy);rw[PyData.depthAll];have m1:=Nat.le_max_left d.depth (PyData.depthAll ds);have m2:=Nat.le_max_right d.depth (PyData.depthAll ds);exact⟨_,bs1++Zg,.cons r1 t1,(r2.mono m1).append (t2.mono m2),.cons ((r3.more fun b hb=>List.mem_append_left _ hb).level_le m1) (t3.more_le (fun b hb=>List.mem_append_right _ hb) m2)⟩
end
end
end L2
namespace L3
open PySem PySem.Spec PyProof.Rows L2
noncomputable def nz:List (PK×PV)→Option (List (List Nat))
 |[]=>some []
 |(.inr l,_)::r=>(nz r).map (l:: ·)
 |_::_=>none
theorem pB:∀{kps:List (PK×PV)}{ks:List (List Nat)},nz kps=some ks→kps.map (·.1)=ks.map Sum.inr
 |[],ks,e=>by simp[nz]at e;subst e;rfl
 |(.inr l,v)::r,ks,e=>by simp only[nz,Option.map_eq_some_iff]at e;obtain⟨QK,e1,rfl⟩:=e;simp[pB e1]
 |(.inl _,_)::_,ks,e=>by simp[nz]at e
def mS(ps:List PV)(h:List PO):Res PV:=match ps with
 |[p]=>match Ru h p with
  |some kps=>match nz kps with
   |some ks=>if ks.length<64 then .ok (.lst ((kN ks).map PV.str)) h else .bad
   |none=>.bad
  |none=>.bad
 |_=>.bad
section
variable{X:Cx}{T:Tab}{Ew:VK}{a b e o:Expr}{es:List Expr}{fa fb fo:Ex}{fs:Ax}{pos p0:Pos}
theorem xX(hc:X.calm=true)(hg:Gl X "sorted")(hm:X.mg "sorted"=none)(ha:RA X T Ew (e::es) fs)
  (he:sE0 X e es:=by rfl) (Mu:sP0 X es pos:=by rfl):
  RE X T Ew (.Call (.Name "sorted" p0) (e::es) [] pos) (cN mS fs):=by with_unfolding_all exact(
  gH (tS hc) (by
 intro F m h H xs ps Q Ew R rp w;unfold mS at w
 split at w
 ·rename_i p;obtain⟨x,rfl,rx⟩:=rp.one
  cases e1:Ru h p with
  |none=>rw[e1]at w;exact w.elim
  |some kps=>
   rw[e1]at w;dsimp only at w
   cases e2:nz kps with
   |none=>rw[e2]at w;exact w.elim
   |some ks=>
    rw[e2]at w;dsimp only at w
    by_cases hz:ks.length<64
    ·rw[if_pos hz]at w;obtain⟨a,kvs,rfl,rd,kk,rr⟩:=ig R rx e1
     have ek:kvs.map (·.1)=ks.map (fun k:List Nat=>(Sum.inr ⟨k.toArray⟩:Key)):=by have z:=congrArg (List.map tk) (pB e2);rw[List.map_map,List.map_map]at z;rw[kk];exact z
     have lk:kvs.length=ks.length:=by have:=congrArg List.length ek;simpa using this
     refine⟨a,kvs,ks,rfl,rd,ek,by omega,eR w R ?_⟩;have:=wk (T:=T) (K:=X.K) (F:=F) (m:=m) (kN ks);exact this
    ·rw[if_neg hz]at w;exact w.elim
 ·exact w.elim) hg hm (by decide+kernel) ha (by decide) (by decide) he Mu)
def Ha:PK→PyData
 |.inl i=>.int i
 |.inr l=>.str (S l)
mutual
def UL:PV→PyData
 |.bl b=>.bool b
 |.int i=>.int i
 |.str l=>.str (S l)
 |.lst xs=>.list (rY xs)
 |.dct kvs=>.dict (sf kvs)
 |_=>.none
def rY:List PV→List PyData
 |[]=>[]
 |x::r=>UL x::rY r
def sf:List (PK×PV)→List (PyData×PyData)
 |[]=>[]
 |(k,x)::r=>(Ha k,UL x)::sf r
end
mutual
def mr:PV→Bool
 |.bl _=>true
 |.int _=>true
 |.str _=>true
 |.lst xs=>oF xs
 |.dct kvs=>tK kvs
 |_=>false
def oF:List PV→Bool
 |[]=>true
 |x::r=>mr x&&oF r
def tK:List (PK×PV)→Bool
 |[]=>true
 |(_,x)::r=>mr x&&tK r
end
theorem se:∀kvs:List (PK×PV),(sf kvs).map (·.1)=kvs.map (fun p=>Ha p.1)
 |[]=>by simp[sf]
 |(k,x)::r=>by simp[sf,se r]
theorem rZ:∀kvs:List (PK×PV),(sf kvs).map (·.2)=rY (kvs.map (·.2))
 |[]=>by simp[sf,rY]
 |(k,x)::r=>by simp[sf,rY,rZ r]
theorem qi:∀kvs:List (PK×PV),tK kvs=oF (kvs.map (·.2))
 |[]=>by simp[tK,oF]
 |(k,x)::r=>by simp[tK,oF,qi r]
theorem DF(k:PK):oh (tk k)=Ha k:=by cases k<;>rfl
theorem aL.Wo{K:W.Frag}{F H:Hp}{m:List Addr}(sm:cy F H){p:PV}{x:V}(q:aL K T F m p x):mr p=true→Uh H x (UL p):=by
 refine aL.rec (motive_1:=fun p x _=>mr p=true→Uh H x (UL p)) (motive_2:=fun p x _=>oF p=true→oR H x (rY p)) ?_ ?_ ?_ ?_ ?_ ?_ ?_ ?l ?_ ?d ?_ ?_ ?_ ?n ?c q
 case l=>intro _ _ _ e _ r h;rw[mr]at h;rw[UL];exact .lst (.inl (sm _ _ e)) (r h)
 case d=>intro kps _ _ kvs e k _ r h;rw[mr,qi]at h;rw[UL];refine .dct (.inr ⟨_,sm _ _ e⟩) ?_ (by rw[rZ];exact r h);rw[se];have z:=congrArg (List.map oh) k;rw[List.map_map,List.map_map]at z;refine Eq.trans ?_ z.symm;exact List.map_congr_left fun p _=>(DF p.1).symm
 case c=>intro _ _ _ _ _ _ r t h;rw[oF,Bool.and_eq_true]at h;rw[rY];exact .cons (r h.1) (t h.2)
 case n=>intro _;rw[rY];exact .nil
 all_goals intros;first|(rename_i h;simp[mr]at h;done)|rw[UL];constructor
theorem aq.Wo{K:W.Frag}{F H:Hp}{m:List Addr}(sm:cy F H):∀{p:List PV}{x:List V},aq K T F m p x→oF p=true→oR H x (rY p)
 |_,_,.nil,_=>by rw[rY];exact .nil
 |_,_,.cons r t,h=>by rw[oF,Bool.and_eq_true]at h;rw[rY];exact .cons (r.Wo sm h.1) (aq.Wo sm t h.2)
noncomputable def EE(K:W.Frag):R2:=fun x y H Q=>∃a b ys,x=.ref a∧y=.ref b∧Nf K H a []∧Nf K H b ys∧Q (.ref b) H
theorem Dp:Ng X (binaryOp .Add) (EE X.K):=by
 intro pins s σ H x y v u Q I rx ry h;obtain⟨p,q,ys,rfl,rfl,hp,hq,k⟩:=h
 cases rx
 cases ry
 obtain⟨its,r1,t1,_⟩:=I.tuple hp;obtain⟨Ut,r2,t2,_⟩:=I.tuple hq;obtain⟨⟨c1,d1,dt1,sl1⟩,g1,rfl,n1,rfl⟩:=id t1;obtain⟨⟨c2,d2,dt2,V1⟩,g2,rfl,n2,rfl⟩:=id t2;have e0:its= []:=r1.Qw.mpr rfl;exact concat_meets ⟨_,g1,rfl⟩ ⟨_,g2,rfl⟩ noFill_tuple_add seq_tuple_add F.slot_tuple_add F.entry_tuple_add (F.args_tuple_add_2 _ _) (tuple_addW0 p q _ _ n1 n2 d1 d2 sl1 V1 (by simp[e0])) ⟨g1,g2,.ref q,H,I,rfl,k⟩
def sM(p q:PV)(h:List PO):Res PV:=match p,q with
 |.tup [],.tup b=>.ok (.tup b) h
 |p,q=>aT p q h
theorem yd{K:W.Frag}:eZ K T (fun x y H Q=>EE K x y H Q∨wq K x y H Q) sM:=by
 intro F m h H x y p q Q Ew R rp rq w;unfold sM at w
 split at w
 ·obtain⟨pa,va,rfl,ea,ra⟩:=fN R rp;obtain⟨pb,vb,rfl,eb,rb⟩:=fN R rq
  cases ra
  exact .inl ⟨pa,pb,vb,rfl,rfl,ea,eb,aS w R rq⟩
 ·exact .inr (sI F m h H x y _ _ Q Ew R rp rq w)
theorem CI(ha:RE X T Ew a fa)(hb:RE X T Ew b fb):RE X T Ew (.BinOp a .Add b pos) (c2 sM fa fb):=by with_unfolding_all exact(
  nJ (Ng.or Dp qQ) yd ha hb)
end
def PO.pure:PO→Bool
 |.lst xs=>aI xs
 |.dct kvs=>gc kvs
 |.o9 _=>true
def bS:List PO→Bool
 |[]=>true
 |o::r=>o.pure&&bS r
section
variable{K:W.Frag}{T:Tab}{F F1 F2 H H1 H2:Hp}{m m1 m2:List Addr}
theorem iV:∀{h:List PO}{i:Nat}{o:PO},bS h=true→h[i]? =some o→o.pure=true
 |[],_,_,_,e=>by simp at e
 |x::r,0,o,p,e=>by simp only[bS,Bool.and_eq_true]at p;simp at e;subst e;exact p.1
 |x::r,i+1,o,p,e=>by simp only[bS,Bool.and_eq_true]at p;exact iV (h:=r) p.2 (by simpa using e)
theorem bf.cut(s:bf F m H F1 m1 H1):bf F m H F1 m H1:=⟨s.fz,⟨[],by simp⟩,s.fr,s.dom,fun i a hi e=>(by rw[List.getElem?_eq_none hi]at e;cases e),s.Pz⟩
theorem BL.I_{m':List Addr}{a:Addr}{o:PO}(h:BL K T F m H a o)(p:o.pure=true):BL K T F m' H a o:=by
 cases o with
 |lst xs=>obtain⟨f,vs,e,r⟩:=h;exact⟨f,vs,e,r.I_ p⟩
 |dct kvs=>obtain⟨f,vs,e,k,r⟩:=h;exact⟨f,vs,e,k,r.I_ (by rw[← kr];exact p)⟩
 |o9 q=>obtain⟨r,pq,o,e⟩:=h;exact⟨r.I_ pq,pq,o,e⟩
theorem RelH.cut{t:List Addr}{h:List PO}(R:RelH K T F (m++t) h H)(p:bS (h.take m.length)=true):RelH K T F m (h.take m.length) H:=by
 have hl:=R.len;rw[List.length_append]at hl;refine⟨R.same,by rw[List.length_take];omega,fun i o a e1 e2=>?_,(List.nodup_append.mp R.nd).1⟩
 have hi:i<m.length:=by
  rcases Nat.lt_or_ge i m.length with q|q
  ·exact q
  ·rw[List.getElem?_eq_none q]at e2;cases e2
 have pp:=iV p e1;rw[List.getElem?_take_of_lt hi]at e1;exact(R.obj i o a e1 (by rw[List.getElem?_append_left hi];exact e2)).I_ pp
end
noncomputable def U3(K:W.Frag)(T:Tab)(np:Nat)(fn:List PV→List PO→Res PV):Sp:=fun vs H Q _=>∃F m h ps,ps.length=np∧RelH K T F m h H∧aq K T F m ps vs∧aG K T (aL K T) F m H Q (fun _ _=>False) (fn ps h)
theorem Cc{K:W.Frag}{T:Tab}{np:Nat}{fn:List PV→List PO→Res PV}{vs:List V}{H:Hp}{Q:VK}{E:XK}(h:U3 K T np fn vs H Q E):vs.length=np:=by obtain⟨F,m,h,ps,e,_,r,_⟩:=h;rw[← r.length];exact e
def oY(n:Nat)(v:PV)(h:List PO):Res PV:=if(bS (h.take n)&&Nat.ble n h.length)=true then .ok v (h.take n)else .bad
def qZ(n:Nat)(v:PV)(h:List PO):Res PV:=match cC h v with
 |some (q,h2)=>oY n q h2
 |none=>.bad
def hJ(f:Sx)(np n:Nat)(ps:List PV)(h:List PO):Res PV:=if ps.length=np then match f (ps.map some++List.replicate (n - ps.length) none) h with
  |.nx _ h1=>oY h.length .non h1
  |.rt v h1=>qZ h.length v h1
  |_=>.bad
 else .bad
section
variable{P:Program}{w:World}{K:W.Frag}{mg:Str→Option Value}{base:Heap}{T:Tab}
theorem uv{N:List Str}{F:Hp}{m:List Addr}{ps:List PV}{vs:List V}(r:aq K T F m ps vs):lU K T F m (ps.map some++List.replicate (N.length - ps.length) none) (hZ N vs):=by
 unfold L2.hZ;have hl:=r.length;refine⟨by simp[hl],fun i p e=>?_⟩;rcases Nat.lt_or_ge i ps.length with hi|hi
 ·rw[List.getElem?_append_left (by simpa using hi),List.getElem?_map]at e
  cases q:ps[i]? with
  |none=>rw[q]at e;cases e
  |some p'=>
   rw[q]at e
   cases e
   obtain⟨v,h1,h2⟩:=r.get q;exact⟨v,by rw[List.getElem?_append_left (by simp;omega),List.getElem?_map,h1];rfl,h2⟩
 ·rw[List.getElem?_append_right (by simpa using hi)]at e;rw[List.getElem?_replicate]at e
  split at e<;>cases e
theorem tM{F H F' H':Hp}{m m':List Addr}{h h1:List PO}{Q:VK}{Ew:VK}{v:PV}{x:V}(R0:RelH K T F m h H)(s:bf F m H F' m' H')(R:RelH K T F' m' h1 H')(r:aL K T F' m' v x)(pv:v.pure=true)
  (w:aG K T (aL K T) F m H Q Ew (oY h.length v h1)):Q x H':=by
 unfold oY at w
 split at w
 ·rename_i z;rw[Bool.and_eq_true]at z;obtain⟨t,rfl⟩:=s.pre;rw[R0.len]at w z;exact w F' m H' x s.cut (R.cut z.1) (r.I_ pv)
 ·exact w.elim
theorem DS{x C_:Str}{st:Stmt}{f:Addr}{fd:FuncData}{N ps:List Str}{k:Nat}{g:Sx}(Fn:T9 K x C_ st f fd)(Sc:jd N ps (aV st))
  (hb:∀(K8:Value)(A:Around)(outer:List Env)(s:Shared)(H:Hp)(E:XK),dR k (A.deeper (envOfC C_ (aV st) s.heap.objs.size f K8))→
   Tj (oG Pg P w K mg base N C_ (aV st) f K8 A outer s H E).Ur T (fun _ _=>False) (eg st) g):
  eD P w K mg base Pg (k+1) f fd ps (U3 K T ps.length (hJ g ps.length N.length)):=by with_unfolding_all
 refine Fn.ok Sc (fun vs H Q E h=>Cc h) fun K8 A outer s H vs Q E hr h=>⟨_,hb K8 A outer s H E hr,?_⟩
 obtain⟨F,m,h,qs,hl,R,r,q⟩:=h;refine⟨F,m,_,h,⟨R,uv r⟩,?_⟩;unfold hJ at q;rw[if_pos hl]at q
 cases z:g (qs.map some++List.replicate (N.length - qs.length) none) h with
 |nx ρ h1=>rw[z]at q;exact fun F' m' H' σ' s R'=>tM R s R'.toRelH .non rfl q
 |rt p h1=>
  rw[z]at q;intro F' m' H' x s R' rp;dsimp only[qZ]at q
  cases y:cC h1 p with
  |none=>rw[y]at q;exact q.elim
  |some ab=>obtain⟨p2,h2⟩:=ab;rw[y]at q;obtain⟨F2,s2,R2,r2,hp⟩:=jH R' rp y;exact tM R (s.trans s2) R2 r2 hp q
 |bk _ _=>rw[z]at q;exact q.elim
 |ct _ _=>rw[z]at q;exact q.elim
 |exc _ _=>rw[z]at q;exact q.elim
 |bad=>rw[z]at q;exact q.elim
end
noncomputable def QX:List PV→List Nat
 |[]=>[]
 |.ref i::r=>i::QX r
 |_::r=>QX r
noncomputable def Ri:Nat→List PV→List PV
 |_,[]=>[]
 |n,.ref _::r=>.ref n::Ri (n+1) r
 |n,p::r=>p::Ri n r
def jf:List PV→Bool
 |[]=>true
 |.ref _::r=>jf r
 |p::r=>p.pure&&jf r
noncomputable def fJ(h:List PO):List Nat→Option (List PO)
 |[]=>some []
 |i::r=>match h[i]? with
  |some o=>match fJ h r with
   |some l=>some (o::l)
   |none=>none
  |none=>none
noncomputable def fD:List PO→List Nat→List PO→List PO
 |h,i::r,o::l=>fD (h.set i o) r l
 |h,_,_=>h
noncomputable def jz:List Nat→Bool
 |[]=>true
 |i::r=>!r.contains i&&jz r
theorem pQ:∀{l:List Nat},jz l=true→l.Nodup
 |[],_=>List.nodup_nil
 |i::r,h=>by simp only[jz,Bool.and_eq_true,Bool.not_eq_true',List.contains_eq_mem,decide_eq_false_iff_not]at h;exact List.nodup_cons.mpr ⟨h.1,pQ h.2⟩
def gR(fn:List PV→List PO→Res PV)(ps:List PV)(h:List PO):Res PV:=match fJ h (QX ps)with
 |some hs=>if(jf ps&&bS hs&&jz (QX ps))=true then match fn (Ri 0 ps) hs with
   |.ok v hs'=>if v.pure=true∧bS hs'=true∧hs'.length=hs.length then .ok v (fD h (QX ps) hs')else .bad
   |_=>.bad
  else .bad
 |none=>.bad
def bp(fn:List PV→List PO→Res PV)(as:Ax):Ex:=fun ρ h=>(as ρ h).bind (gR fn)
section
variable{K:W.Frag}{T:Tab}{F H:Hp}{m:List Addr}{h:List PO}
theorem qK{pre:List Addr}:∀{ps:List PV}{vs:List V}{as:List Addr}{n:Nat},aq K T F m ps vs→jf ps=true→(QX ps).map (m[·]?)=as.map some→∀(pre:List Addr),pre.length=n→aq K T F (pre++as) (Ri n ps) vs:=by
 intro ps vs as n q ok e pre hn;cases q with
 |nil=>exact .nil
 |@cons p v r vs r1 r2=>
  by_cases hr:∃i,p=.ref i
  ·obtain⟨i,rfl⟩:=hr
   cases as with
   |nil=>simp[QX]at e
   |cons a as=>
    simp only[QX,List.map_cons,List.cons.injEq]at e
    cases r1 with
    |ref em=>
     rw[em]at e;obtain⟨e0,e1⟩:=e
     cases e0
     show aq K T F _ (.ref n::Ri (n+1) r) _;have q:=qK (pre:=pre) (n:=n+1) r2 (by simpa[jf]using ok) e1 (pre++ [a]) (by simp[hn]);rw[List.append_assoc,List.singleton_append]at q;exact .cons (.ref (by rw[List.getElem?_append_right (by omega),hn];simp)) q
  ·have h1:QX (p::r)=QX r:=by cases p<;>first|rfl|exact(hr ⟨_,rfl⟩).elim
   have h2:Ri n (p::r)=p::Ri n r:=by cases p<;>first|rfl|exact(hr ⟨_,rfl⟩).elim
   have h3:jf (p::r)=(p.pure&&jf r):=by cases p<;>first|rfl|exact(hr ⟨_,rfl⟩).elim
   rw[h3,Bool.and_eq_true]at ok;rw[h1]at e;rw[h2];exact .cons (r1.I_ ok.1) (qK (pre:=pre) r2 ok.2 e pre hn)
theorem kB:∀{is:List Nat}{hs:List PO},fJ h is=some hs→hs.length=is.length
 |[],_,e=>by cases e;rfl
 |i::r,hs,e=>by
  unfold fJ at e
  split at e
  ·split at e
   ·cases e;rename_i z;simp[kB z]
   ·cases e
  ·cases e
theorem ot:∀{is:List Nat}{hs:List PO}{j:Nat}{o:PO},fJ h is=some hs→hs[j]? =some o→∃i,is[j]? =some i∧h[i]? =some o
 |[],_,_,_,e,e2=>by cases e;simp at e2
 |i::r,hs,j,o,e,e2=>by
  unfold fJ at e
  split at e
  ·split at e
   ·cases e
    rename_i z1 _ _ z2
    cases j with
    |zero=>simp at e2;subst e2;exact⟨i,rfl,z1⟩
    |succ j=>exact ot (is:=r) (j:=j) z2 (by simpa using e2)
   ·cases e
  ·cases e
theorem JN(R:RelH K T F m h H):∀{is:List Nat}{hs:List PO},fJ h is=some hs→∃as:List Addr,is.map (m[·]?)=as.map some
 |[],_,_=>⟨[],rfl⟩
 |i::r,hs,e=>by
  unfold fJ at e
  split at e
  ·split at e
   ·rename_i z1 _ _ z2;obtain⟨as,q⟩:=JN R z2
    have hi:i<m.length:=by
     rw[← R.len];rcases Nat.lt_or_ge i h.length with z|z
     ·exact z
     ·rw[List.getElem?_eq_none z]at z1;cases z1
    exact⟨m[i]::as,by simp[q,hi]⟩
   ·cases e
  ·cases e
theorem jS{is:List Nat}{as:List Addr}(e:is.map (m[·]?)=as.map some){j:Nat}{a:Addr}(ea:as[j]? =some a):∃i,is[j]? =some i∧m[i]? =some a:=by
 have q:=congrArg (·[j]?) e;simp only[List.getElem?_map,ea,Option.map_some]at q
 cases z:is[j]? with
 |none=>rw[z]at q;simp at q
 |some i=>rw[z]at q;simp at q;exact⟨i,rfl,q⟩
theorem xw(hm:m.Nodup):∀{is:List Nat}{as:List Addr},is.map (m[·]?)=as.map some→is.Nodup→as.Nodup
 |[],[],_,_=>List.nodup_nil
 |[],_::_,e,_=>by simp at e
 |_::_,[],e,_=>by simp at e
 |i::r,a::as,e,h=>by
  simp only[List.map_cons,List.cons.injEq]at e;obtain⟨h1,h2⟩:=List.nodup_cons.mp h;refine List.nodup_cons.mpr ⟨fun z=>?_,xw hm e.2 h2⟩;obtain⟨j,hj⟩:=List.mem_iff_getElem?.mp z;obtain⟨i2,q1,q2⟩:=jS e.2 hj
  have hi:i<m.length:=by
   rcases Nat.lt_or_ge i m.length with z|z
   ·exact z
   ·rw[List.getElem?_eq_none z]at e;cases e.1
  have W0:i2<m.length:=by
   rcases Nat.lt_or_ge i2 m.length with z|z
   ·exact z
   ·rw[List.getElem?_eq_none z]at q2;cases q2
  have e1:=e.1;rw[List.getElem?_eq_getElem hi,Option.some.injEq]at e1;rw[List.getElem?_eq_getElem W0,Option.some.injEq]at q2;have:i=i2:=(List.getElem_inj hm).mp (e1.trans q2.symm);subst this;exact h1 (List.mem_of_getElem? q1)
theorem nN:∀(is:List Nat)(hs h:List PO),(fD h is hs).length=h.length
 |[],_,_=>by simp[fD]
 |_::_,[],_=>by simp[fD]
 |i::r,o::l,h=>by simp[fD,nN r l]
theorem iU:∀{is:List Nat}{hs h:List PO}{j:Nat},j∉is→(fD h is hs)[j]? =h[j]?
 |[],_,_,_,_=>by simp[fD]
 |_::_,[],_,_,_=>by simp[fD]
 |i::r,o::l,h,j,n=>by simp only[List.mem_cons,not_or]at n;rw[fD,iU n.2,List.getElem?_set_ne (fun z=>n.1 z.symm)]
theorem pL:∀{is:List Nat}{hs h:List PO}{j i:Nat},is.Nodup→is[j]? =some i→i<h.length→j<hs.length→(fD h is hs)[i]? =hs[j]?
 |[],_,_,_,_,_,e,_,_=>by simp at e
 |_::_,[],_,_,_,_,_,_,q=>by simp at q
 |i0::r,o::l,h,j,i,nd,e,hi,q=>by
  obtain⟨n1,n2⟩:=List.nodup_cons.mp nd
  cases j with
  |zero=>simp at e;subst e;rw[fD,iU n1,List.getElem?_set_self hi];rfl
  |succ j=>rw[fD,pL (j:=j) n2 (by simpa using e) (by simpa using hi) (by simpa using q)];simp
end
section
variable{X:Cx}{T:Tab}{Ew:VK}{e:Expr}{es:List Expr}{fs:Ax}{pos p0:Pos}{k:Nat}{f:Addr}{fd:FuncData}{ps:List Str}{fn:List PV→List PO→Res PV}{x:Str}
theorem vJ{F H:Hp}{m:List Addr}{h:List PO}{Q:VK}{K:W.Frag}{np:Nat}{qs:List PV}{vs:List V}{E:XK}(R7:∀qs hs v h',fn qs hs=.ok v h'→qs.length=np)(R:RelH K T F m h H)(r:aq K T F m qs vs)(w:aG K T (aL K T) F m H Q Ew (gR fn qs h)):U3 K T np fn vs H Q E:=by
 unfold gR at w
 cases z:fJ h (QX qs)with
 |none=>rw[z]at w;exact w.elim
 |some hs=>
  rw[z]at w;dsimp only at w
  split at w
  ·rename_i c;simp only[Bool.and_eq_true]at c;obtain⟨⟨c1,c2⟩,c3⟩:=c;have nd:=pQ c3;obtain⟨as,ea⟩:=JN R z
   have E_:hs.length=as.length:=by have:=congrArg List.length ea;simp only[List.length_map]at this;rw[kB z,this]
   have nda:=xw R.nd ea nd
   have R1:RelH K T F as hs H:=⟨R.same,E_,fun j o a e1 e2=>by obtain⟨i,q1,q2⟩:=ot z e1;obtain⟨i2,q3,q4⟩:=jS ea e2;rw[q1]at q3;cases q3;exact(R.obj i o a q2 q4).I_ (iV c2 e1),nda⟩
   have r1:aq K T F as (Ri 0 qs) vs:=by have:=qK (pre:=[]) (n:=0) r c1 ea [] rfl;simpa using this
   cases y:fn (Ri 0 qs) hs with
   |bad=>rw[y]at w;exact w.elim
   |exc e h'=>rw[y]at w;exact w.elim
   |ok v hs'=>
    rw[y]at w;dsimp only at w
    split at w
    ·rename_i d;obtain⟨d1,d2,d3⟩:=d;refine⟨F,as,hs,Ri 0 qs,R7 _ _ _ _ y,R1,r1,?_⟩;rw[y];intro F' m' H' x s R2 rx;obtain⟨t,rfl⟩:=s.pre
     have ht:t= []:=by
      have:=R2.len;rw[d3,E_,List.length_append]at this
      cases t with
      |nil=>rfl
      |cons a b=>simp at this
     subst ht;rw[List.append_nil]at R2 rx s
     have sub:∀a,a∈as→a∈m:=fun a ha=>by obtain⟨j,hj⟩:=List.mem_iff_getElem?.mp ha;obtain⟨i,_,q⟩:=jS ea hj;exact List.mem_of_getElem? q
     refine w F' m H' x ⟨s.fz,⟨[],by simp⟩,fun b o hb n=>s.fr b o hb fun q=>n (sub _ q),s.dom,fun i a hi e=>(by rw[List.getElem?_eq_none hi]at e;cases e),fun a o e=>(s.Pz a o e).imp id (Or.imp id (sub a))⟩ ?_ (rx.I_ d1);refine⟨R2.same,by rw[nN];exact R.len,fun i o a e1 e2=>?_,R.nd⟩
     have XC:i<m.length:=by
      rcases Nat.lt_or_ge i m.length with q|q
      ·exact q
      ·rw[List.getElem?_eq_none q]at e2;cases e2
     by_cases hi:i∈QX qs
     ·obtain⟨j,hj⟩:=List.mem_iff_getElem?.mp hi
      have hjl:j<hs'.length:=by
       rw[d3,kB z];rcases Nat.lt_or_ge j (QX qs).length with q|q
       ·exact q
       ·rw[List.getElem?_eq_none q]at hj;cases hj
      rw[pL nd hj (by rw[R.len];exact XC) hjl]at e1;have hja:j<as.length:=by rw[← E_,← d3];exact hjl
      have ej:as[j]? =some a:=by obtain⟨i2,q1,q2⟩:=jS ea (List.getElem?_eq_getElem hja);rw[hj]at q1;cases q1;rw[e2]at q2;rw[List.getElem?_eq_getElem hja,q2]
      exact(R2.obj j o a e1 ej).I_ (iV d2 e1)
     ·rw[iU hi]at e1
      have na:a∉as:=fun q=>by
       obtain⟨j,hj⟩:=List.mem_iff_getElem?.mp q;obtain⟨i2,q1,q2⟩:=jS ea hj
       have W0:i2<m.length:=by
        rcases Nat.lt_or_ge i2 m.length with q|q
        ·exact q
        ·rw[List.getElem?_eq_none q]at q2;cases q2
       rw[List.getElem?_eq_getElem XC,Option.some.injEq]at e2;rw[List.getElem?_eq_getElem W0,Option.some.injEq]at q2;have:i=i2:=(List.getElem_inj R.nd).mp (e2.trans q2.symm);subst this;exact hi (List.mem_of_getElem? q1)
      have live:∀{u},F a=none→H a=some u→F' a=none:=fun n hu=>by
       cases z:F' a with
       |none=>rfl
       |some o=>
        rcases s.Pz a o z with y|y|y
        ·rw[n]at y;cases y
        ·rw[hu]at y;cases y
        ·exact(na y).elim
      have mono:∀{ps us},aq K T F m ps us→aq K T F' m ps us:=fun r=>r.mono s.fz fun _ _ h=>h;have q:=R.obj i o a e1 e2
      cases o with
      |lst xs=>obtain⟨f0,ws,z,rr⟩:=q;exact⟨live f0 z,ws,s.fr _ _ z na,mono rr⟩
      |dct xs=>obtain⟨f0,ws,z,kk,rr⟩:=q;exact⟨live f0 z,ws,s.fr _ _ z na,kk,mono rr⟩
      |o9 p'=>obtain⟨r1,r3,o,r4⟩:=q;exact⟨r1.mono s.fz fun _ _ h=>h,r3,o,s.fz _ _ r4⟩
    ·exact w.elim
  ·exact w.elim
theorem zR(F:eD X.prog X.w X.K X.mg X.base Pg k f fd ps (U3 X.K T ps.length fn))(R7:∀qs hs v h',fn qs hs=.ok v h'→qs.length=ps.length)(hr:dR k X.A)(hg:Gl X x)(hm:X.mg x=some (.ref f))(hk:W.keepIn X.K (.ref f)=true)(hb:ga X.K fd ps [])
  (ha:RA X T Ew (e::es) fs) (Qh:nD0 x:=by decide)(he:sE0 X e es:=by rfl) (Mu:sP0 X es pos:=by rfl):
  RE X T Ew (.Call (.Name x p0) (e::es) [] pos) (bp fn fs):=by with_unfolding_all
 refine PE.imp (qN F hr hg hm hk hb .nil sJ ha Qh he Mu) ?_;rintro σ H Q ⟨F,m,ρ,h,R,p⟩;refine⟨F,m,ρ,h,R,(aG.bind p).mono ?_⟩;rintro vs H1 ⟨F1,m1,h1,qs,s1,R1,r1,w1⟩
 rw[List.append_nil];exact vJ R7 R1 r1 w1
theorem iD{f:Sx}{np n:Nat}:∀qs hs v h',hJ f np n qs hs=.ok v h'→qs.length=np:=fun qs hs v h' e=>by
 unfold hJ at e
 split at e
 ·assumption
 ·cases e
end
abbrev Ve:=List PV→Ev→Option Ev
@[irreducible] def X8(X:Cx)(T:Tab)(es:List Expr)(g:Ve):Prop:=Ui X es (fun vs σ H Q=>∃F m ρ h ps ρ',gZ X.K T F m ρ h σ H∧aq X.K T F m ps vs∧g ps ρ=some ρ'∧∀ σ',lU X.K T F m ρ' σ'→Q σ' H)
noncomputable def bv:Ve:=fun ps ρ=>match ps with
 |[]=>some ρ
 |_=>none
noncomputable def ar(g:Gx)(gs:Ve):Ve:=fun ps ρ=>match ps with
 |p::r=>match g p ρ with
  |some ρ1=>gs r ρ1
  |none=>none
 |[]=>none
noncomputable def Nm(n:Nat)(gs:Ve):Gx:=fun p ρ=>match p with
 |.tup ps=>if ps.length=n then gs ps ρ else none
 |_=>none
def ko(g:Gx)(f:Ex):Sx:=fun ρ h=>dq (f ρ h) fun v h1=>match g v ρ with
 |some ρ1=>.nx ρ1 h1
 |none=>.bad
section
variable{X:Cx}{T:Tab}{Ew:VK}{e tg:Expr}{es:List Expr}{f:Ex}{g:Gx}{gs:Ve}{pos:Pos}
theorem PG.imp{t t':TG}(h:PG X e t)(i:∀v σ H Q,t' v σ H Q→t v σ H Q):PG X e t':=fun pins s σ H v u Q I r q=>h pins s σ H v u Q I r (i _ _ _ _ q)
theorem Ui.imp{t t':Vd}(h:Ui X es t)(i:∀v σ H Q,t' v σ H Q→t v σ H Q):Ui X es t':=fun pins s σ H v u Q I r q=>h pins s σ H v u Q I r (i _ _ _ _ q)
theorem Cs:X8 X T [] bv:=by with_unfolding_all
 refine Ui.imp De ?_;rintro vs σ H Q ⟨F,m,ρ,h,ps,ρ',R,r,e,q⟩
 cases r with
 |nil=>cases e;exact⟨rfl,q _ R.env⟩
 |cons _ _=>cases e
theorem zH(h1:RG X T e g)(h2:X8 X T es gs)(hs:(assignEach (e::es) X.env).map (·.2)=assign e X.env::(assignEach es X.env).map (·.2):=by rfl):X8 X T (e::es) (ar g gs):=by with_unfolding_all
 refine Ui.imp (Aq h1 h2 hs) ?_;rintro vs σ H Q ⟨F,m,ρ,h,ps,ρ',R,r,e,q⟩
 cases r with
 |nil=>cases e
 |@cons p v r vr r1 r2=>
  have e:(match g p ρ with|some ρ1=>gs r ρ1|none=>none)=some ρ':=e
  cases z:g p ρ with
  |none=>rw[z]at e;cases e
  |some ρ1=>rw[z]at e;exact⟨v,vr,rfl,F,m,ρ,h,p,ρ1,R,r1,z,fun σ1 R1=>⟨F,m,ρ1,h,r,ρ',⟨R.toRelH,R1⟩,r2,e,q⟩⟩
theorem FC{n k:Nat}(h:X8 X T es gs)(hc:X.calm=true:=by rfl)(hn:(assignEach es X.env).length=n:=by rfl)(Yz:(assignEach es X.env).findIdx? (·.1)=none:=by rfl):RG X T (.Tuple es k pos) (Nm n gs):=by with_unfolding_all
 refine PG.imp (Go hc h hn Yz) ?_;rintro v σ H Q ⟨F,m,ρ,h,p,ρ',R,r,e,q⟩
 cases r with
 |@tup ps a vs sq rr=>
  have e:(if ps.length=n then gs ps ρ else none)=some ρ':=e
  split at e
  ·rename_i hl;exact⟨a,vs,rfl,R.same.O9 sq,by rw[← rr.length];exact hl,F,m,ρ,h,ps,ρ',R,rr,e,q⟩
  ·cases e
 |_=>cases e
theorem FA(ha:RE X T Ew e f)(hg:RG X T tg g)(hs:swapsWithSole [tg] e pos.line X.env=pure false:=by rfl)(hw:swappedStores [tg] e X.env=pure none:=by rfl)
  (h1:(assignEach [tg] X.env).map (·.2)=[assign tg X.env]:=by rfl):RS X T Ew (.Assign [tg] e pos) (ko g f):=by with_unfolding_all
 refine PS.imp (Ac ha hg hs hw h1) ?_;rintro D σ H ⟨F,m,ρ,h,R,p⟩;refine⟨F,m,ρ,h,R,(ge p).mono ?_⟩;rintro v H1 ⟨F1,m1,h1,q,s1,R1,r1,w1⟩
 cases z:g q ρ with
 |none=>rw[z]at w1;exact w1.elim
 |some ρ1=>rw[z]at w1;exact⟨F1,m1,ρ,h1,q,ρ1,R.of s1 R1,r1,z,fun σ1 E1=>w1 F1 m1 H1 σ1 .refl ⟨R1,E1⟩⟩
end
noncomputable def uI(ps:List PV)(h:List PO):Res PV:=match ps with
 |[.int i,.int j]=>.ok (.int (if j>i then j else i)) h
 |_=>.bad
section
variable{X:Cx}{T:Tab}{Ew:VK}{pos p0:Pos}
theorem FS{e:Expr}{es:List Expr}{f:Ax}(hg:Gl X "max")(hm:X.mg "max"=none)(ha:RA X T Ew (e::es) f)(hc:X.calm=true:=by rfl)
  (he:sE0 X e es:=by rfl) (Mu:sP0 X es pos:=by rfl):
  RE X T Ew (.Call (.Name "max" p0) (e::es) [] pos) (cN uI f):=by with_unfolding_all exact(gH (yM hc) (by
 intro F m h H xs ps Q Ew R rp w;unfold uI at w
 split at w
 ·obtain⟨x,y,rfl,rx,ry⟩:=rp.two
  cases rx
  cases ry
  exact⟨_,_,rfl,aS w R (.int _)⟩
 ·exact w.elim) hg hm (by decide+kernel) ha (by decide) (by decide) he Mu)
end
end L3
namespace L2
open PySem PySem.Spec PyProof.Rows
section
variable{prog:Program}{w:World}{A:Around}{E:Value→Shared→Prop}{s:Shared}{it t:Addr}{i:Nat}{items:Array Value}
theorem sN{Q:Value→Shared→Prop}(hit:s.heap.IsTupleIter it t i)
  (go:wpAny (model prog w) A.in1 (Builtin.«tuple_iterator.__next__» ⟨[.ref it],[]⟩) (fun fin s'=>∃v,fin=.done (.ret v)∧Q v s') E s):wpAny (model prog w) A (Builtin.SmallTypes.nextOf (.ref it)) Q E s:=by
 have ty:=hit.typeIs;have c:=wpAny_callSpecial?_slot (E:=E) (name:="__next__") (Q:=fun r s'=>∃v,r=some v∧Q v s') ty F.slot_tuple_iterator_next (wpAny_call_entry F.slot_tuple_iterator_next ty F.entry_tuple_iterator_next (wpAny_mono go ((by rintro fin s' ⟨v,e,q⟩;exact ⟨v,e,v,rfl,q⟩)) fun _ _ z=>z) (F.args_tuple_iterator_next_1 _));unfold Builtin.SmallTypes.nextOf;exact wpAny_bind (wpAny_mono c ((by rintro r s' ⟨v,e,q⟩;subst e;exact wpAny_pure q)) fun _ _ z=>z)
theorem xV{x:Value}{Q:Value→Shared→Prop}(hit:s.heap.IsTupleIter it t i)(ht:s.heap.IsTuple t items)(hx:items[i]? =some x)(hQ:∀h',h'.IsTupleIter it t (i+1)→Heap.SameBut it s.heap h'→Q x { s with heap:=h' }):
  wpAny (model prog w) A (Builtin.«tuple_iterator.__next__» ⟨[.ref it],[]⟩) (fun fin s'=>∃v,fin=.done (.ret v)∧Q v s') E s:=by
 obtain⟨o,ho,hc,hd⟩:=id hit;obtain⟨p,hp,_,n,YX⟩:=ht;have nn:¬ ((Value.ref t==Value.none)=true):=Bool.false_ne_true;refine(show wpAny (model prog w) A (field (.ref it) 0 >>= _) _ E s from wpAny_bind (wpAny_field ho hd (x:=.ref t) rfl ?_));refine(show wpAny (model prog w) A (if(Value.ref t==Value.none)=true then _ else _) _ E s from ?_);rw[if_neg nn];refine(show wpAny (model prog w) A (field (.ref it) 1 >>= _) _ E s from wpAny_bind (wpAny_field ho hd (x:=.int i 0) rfl ?_));refine(show wpAny (model prog w) A (seqItems? (.ref t) >>= _) _ E s from wpAny_bind (wpAny_seqItems hp YX ?_));simp only[Int.toNat_natCast,hx];have st:∀f,(o.mapFields f).data=.fields (f #[.ref t,.int i 0]):=fun f=>Obj.data_mapFields hd f;refine wpAny_bind (wpAny_setField ho hd (by simp) (wpAny_pure ⟨x,rfl,hQ _ ⟨_,Heap.get?_update_self _ ho (Obj.isFreed_of_fields (Obj.data_mapFields hd _)),?_,?_⟩ (Heap.SameBut.update ..)⟩))
 ·rw[Obj.cls_mapFields];exact hc
 ·rw[Obj.data_mapFields hd];simp[rawInt]
theorem zF{Q:Fin→Shared→Prop}(hh:A.handled=none)(hit:s.heap.IsTupleIter it t i)(ht:s.heap.IsTuple t items)(hx:items[i]? =none)
  (hE:∀h' e,Heap.ExtBut it s.heap h'→(∃o,h'.get? e=some o∧o.cls=.type "StopIteration")→E (.ref e) { s with heap:=h' }):
  wpAny (model prog w) A (Builtin.«tuple_iterator.__next__» ⟨[.ref it],[]⟩) Q E s:=by
 obtain⟨o,ho,hc,hd⟩:=id hit;obtain⟨p,hp,_,n,YX⟩:=ht;have nn:¬ ((Value.ref t==Value.none)=true):=Bool.false_ne_true;refine(show wpAny (model prog w) A (field (.ref it) 0 >>= _) _ E s from wpAny_bind (wpAny_field ho hd (x:=.ref t) rfl ?_));refine(show wpAny (model prog w) A (if(Value.ref t==Value.none)=true then _ else _) _ E s from ?_);rw[if_neg nn];refine(show wpAny (model prog w) A (field (.ref it) 1 >>= _) _ E s from wpAny_bind (wpAny_field ho hd (x:=.int i 0) rfl ?_));refine(show wpAny (model prog w) A (seqItems? (.ref t) >>= _) _ E s from wpAny_bind (wpAny_seqItems hp YX ?_));simp only[Int.toNat_natCast,hx];refine wpAny_bind (wpAny_rule (wpAny_bind (wpAny_setField ho hd (by simp) (wpAny_bind ?_))));simp only[newExc,newTuple];refine wpAny_bind (wpAny_newObj_type (wpAny_bind (m:=firstArgMember _ _) (wpAny_of_eq (a:=Value.none) (by first|rfl|(simp only[firstArgMember];rfl)) (wpAny_newObj_type ?_ (by size_fits)))) (by size_fits));simp only[raiseNew];refine wpAny_bind (wpAny_handled ?_);rw[hh];exact wpAny_bind (wpAny_pure (wpAny_throw (hE _ _ (((Heap.SameBut.update ..).extBut.push _).push _) ⟨_,Heap.get?_push_size _ rfl,rfl⟩)))
theorem Hr(hh:A.handled=none)(ne:t≠it):Draws prog w A.in1 it [it,t] items.size (fun j v=>items[j]? =some v) (fun j h=>h.IsTupleIter it t j∧h.IsTuple t items) where
 live:=fun j h st=>by obtain⟨o,ho,_⟩:=st.1;exact⟨o,ho⟩
 frame:=fun j h h' st k=>by obtain⟨⟨o,ho,r⟩,⟨p,hp,q⟩⟩:=st;exact⟨⟨o,k _ (by simp) o ho,r⟩,⟨p,k _ (by simp) p hp,q⟩⟩
 item:=fun j s Q E hj st hQ=>sN st.1 (xV st.1 st.2 (x:=items[j]) (by simp[hj]) fun h' Qt sb=>hQ _ h' s.toks (by simp[hj]) ⟨Qt,st.2.extBut sb.extBut ne⟩ sb)
 done:=fun s Q E st hE=>sN st.1 (zF (A:=A.in1.in1) hh st.1 st.2 (by simp) hE)
noncomputable def tE(a:Addr):Obj:={ cls:=.type "enumerate",data:=.fields #[.none,.bool false,.ref a,rawInt 0,.none,.none] }
noncomputable def rX(a:Addr):Obj:={ cls:=.type "tuple_iterator",data:=.fields #[.ref a,.int 0 0] }
theorem yr(a:Addr)(xs:Array Value)(o:Obj)(hc:o.cls=.type "tuple")(n:Nat)(hd:o.data=.seq xs n):Meets (Builtin.«enumerate.__new__» ⟨[.type "enumerate",.ref a],[]⟩) (fun _ R s=>s.heap.get? a=some o∧
   R (.ok (.ret (.ref (s.heap.push (rX a)).objs.size))) { s with heap:=(s.heap.push (rX a)).push (tE s.heap.objs.size) }):=
 .of_wp fun P1 w1 A1 R s ⟨hl,h⟩=>by
  cases s with
  |mk hp gs dd tk os=>
  have sub:=sub_enumerate;have tt:Heap.IsTuple hp a xs:=⟨o,hl,hc,n,hd⟩
  wp_walk using AutoSeq1.wpAny_loadPart' hl
  refine wpAny_stack_any fun st=>wpAny_pure ?_
  split
  ·rename_i c _ _ _ _ _
   by_cases e:(c==Value.type "enumerate")=true
   ·rw[e];wp_walk using AutoSeq1.wpAny_loadPart' hl,wpAny_pyIter_tuple tt;exact⟨_,rfl,h⟩
   ·rw[Bool.not_eq_true]at e;rw[e];wp_walk using AutoSeq1.wpAny_loadPart' hl,wpAny_pyIter_tuple tt;exact⟨_,rfl,h⟩
  ·wp_walk using AutoSeq1.wpAny_loadPart' hl,wpAny_pyIter_tuple tt;exact⟨_,rfl,h⟩
theorem vG{Q:Value→Shared→Prop}(ht:s.heap.IsTuple t items)(h:Q (.ref (s.heap.objs.size+1)) { s with heap:=(s.heap.push (rX t)).push (tE s.heap.objs.size) }):wpAny (model prog w) A (call (.type "enumerate") [.ref t]) Q E s:=by obtain⟨o,ho,hc,n,hd⟩:=ht;have z:(s.heap.push (rX t)).objs.size=s.heap.objs.size+1:=Heap.size_push ..;have g:=Heap.get?_push_size (s.heap.push (rX t)) (o:=tE s.heap.objs.size) rfl;refine callType_new F.called_enumerate (by decide) (F.typeCall_enumerate_1 _) (F.newCall_enumerate_1 _) (fun obj=>F.args_object_init_2 obj _) F.entry_enumerate_new (yr t items o hc n hd) ⟨ho,?_⟩;exact⟨⟨_,g,rfl⟩,by rw[z];exact h⟩
end
section
variable{X:Cx}{pins:List (Addr×Obj)}{σ:St}{H:Hp}{s:Shared}{h':Heap}
theorem Inv.Uj{t':Nat}{c d:Addr}(I:Inv X pins σ H s)(k:∀b o,b≠c→b≠d→s.heap.get? b=some o→h'.get? b=some o)(fc:jU X pins H c)(fd:jU X pins H d):Inv X pins σ H { s with heap:=h',toks:=t' }:=by
 have k2:∀b o,b∉ [c,d]→s.heap.get? b=some o→h'.get? b=some o:=fun b o hb e=>k b o (fun z=>hb (by simp[z])) (fun z=>hb (by simp[z])) e
 have nt:∀b u,H b=some u→b∉ [c,d]:=fun b u e z=>by
  rcases List.mem_cons.mp z with z|z
  ·rw[z,fc.1]at e;cases e
  ·rw[List.mem_singleton.mp z,fd.1]at e;cases e
 have nl:X.env.locals∉ [c,d]:=fun z=>by
  rcases List.mem_cons.mp z with z|z
  ·exact fc.2.1 z.symm
  ·exact fd.2.1 (List.mem_singleton.mp z).symm
 refine I.step (g':=s.gens) (d':=s.drawn) (ch:=[c,d]) (fun b hb=>?_) (fun b o _ _ hc e _=>k2 b o hc e) (fun b o _ _ hc e _=>⟨o.slots,k2 b o hc e⟩) (fun _ _ _ _ n=>n)
  (fun b o hc e=>⟨o,k2 b o hc e⟩) (fun _ _ e=>e) (fun _ _ _ e=>e) (fun b ps e=>⟨#[],by rw[e];simp⟩) (fun m hm=>?_) (fun b u e=>?_) I.bare
 ·rcases List.mem_cons.mp hb with z|z
  ·subst z;exact⟨fc.2.2.2.1,fc.2.1,fc.2.2.2.2.1,fc.2.2.2.2.2⟩
  ·rw[List.mem_singleton.mp z];exact⟨fd.2.2.2.1,fd.2.1,fd.2.2.2.2.1,fd.2.2.2.2.2⟩
 ·obtain⟨o,es,ep,ho,r⟩:=hm;exact⟨o,es,ep,k2 _ o nl ho,r⟩
 ·refine(I.hok b u e).stay (fun c v hc q=>k2 c v ?_ q) (fun _ q=>q) fun _ _ q=>q;rcases hc with z|z
  ·rw[z];exact nt b u e
  ·exact nt c _ z
theorem Inv.RM{t':Nat}{c d a:Addr}{o:HO}(I:Inv X pins σ H s)(k:∀b o,b≠c→b≠d→s.heap.get? b=some o→h'.get? b=some o)(fc:jU X pins H c)(fd:jU X pins H d)(hp:s.heap.objs.size≤a)(new:bN X.prog X.w (upd H a o) h' a o):
  Inv X pins σ (upd H a o) { s with heap:=h',toks:=t' }:=by
 have hn:H a=none:=I.hok.fresh hp;have k2:∀b o,b∉ [c,d]→s.heap.get? b=some o→h'.get? b=some o:=fun b o hb e=>k b o (fun z=>hb (by simp[z])) (fun z=>hb (by simp[z])) e
 have nt:∀b u,H b=some u→b∉ [c,d]:=fun b u e z=>by
  rcases List.mem_cons.mp z with z|z
  ·rw[z,fc.1]at e;cases e
  ·rw[List.mem_singleton.mp z,fd.1]at e;cases e
 have nl:X.env.locals∉ [c,d]:=fun z=>by
  rcases List.mem_cons.mp z with z|z
  ·exact fc.2.1 z.symm
  ·exact fd.2.1 (List.mem_singleton.mp z).symm
 refine I.step (g':=s.gens) (d':=s.drawn) (ch:=[c,d]) (fun b hb=>?_) (fun b o _ _ hc e _=>k2 b o hc e) (fun b o _ _ hc e _=>⟨o.slots,k2 b o hc e⟩) (fun b ob _ q n=>by rw[aj (Nat.ne_of_lt (Nat.lt_of_lt_of_le (Heap.lt_size q) hp))];exact n)
  (fun b o hc e=>⟨o,k2 b o hc e⟩) (fun b xs q=>by rw[aj (aE q hn)];exact q) (fun b u xs q=>by rw[aj (aE q hn)];exact q) (fun b ps q=>⟨#[],by rw[aj (aE q hn),q];simp⟩) (fun m hm=>?_) (fun b u e=>?_) I.bare
 ·rcases List.mem_cons.mp hb with z|z
  ·subst z;exact⟨fc.2.2.2.1,fc.2.1,fc.2.2.2.2.1,fc.2.2.2.2.2⟩
  ·rw[List.mem_singleton.mp z];exact⟨fd.2.2.2.1,fd.2.1,fd.2.2.2.2.1,fd.2.2.2.2.2⟩
 ·obtain⟨o,es,ep,ho,r⟩:=hm;exact⟨o,es,ep,k2 _ o nl ho,r⟩
 ·by_cases hb:b=a
  ·subst hb;rw[aK]at e;cases e;exact new
  ·rw[aj hb]at e;refine(I.hok b u e).stay (fun c v hc q=>k2 c v ?_ q) (fun c q=>by rw[aj (aE q hn)];exact q) fun c xs q=>by rw[aj (aE q hn)];exact q
   rcases hc with z|z
   ·rw[z];exact nt b u e
   ·exact nt c _ z
end
def Ite(sq:Hp→List V→Prop):It:=
 ⟨fun i H=>∃xs x,sq H xs∧xs[i]? =some x,fun i H x H'=>∃p y,H p=none∧x=.ref p∧H'=upd H p (.tup [.int i,y])∧∀xs,sq H xs→xs[i]? =some y,fun i H=>∃xs,sq H xs∧xs.length=i⟩
section
variable{P:Program}{w:World}{K:W.Frag}{elts:List Expr}{k:Nat}{pos:Pos}
structure Src(P:Program)(w:World)(K:W.Frag)(a it:Addr)(sq:Hp→List V→Prop)(ii:Nat→Heap→Prop):Prop where
 obj:∀j h,ii j h→∃o,h.get? it=some o∧∀v,o.data≠.cell v
 keep:∀j h h',ii j h→(∀o,h.get? it=some o→h'.get? it=some o)→ii j h'
 inj:∀(X:Cx) pins σ H s xs ys,X.K=K→Inv X pins σ H s→sq H xs→sq H ys→xs=ys
 get:∀(X:Cx) pins σ H s xs,X.prog=P→X.w=w→X.K=K→X.calm=true→Inv X pins σ H s→sq H xs→∃(its:List Value)(St:Nat→Heap→Prop),aR xs its∧Draws P w X.A.in1 it [it,a] its.length (fun j v=>its[j]? =some v) St∧(∀j,ii j s.heap→St j s.heap)∧∀j h,St j h→ii j h
theorem BX{a it:Addr}(n2:a≠it):Src P w K a it (fun H xs=>Nf K H a xs) (fun j h=>h.IsTupleIter it a j) where
 obj:=(by rintro j h ⟨o,ho,c,d⟩;exact ⟨o,ho,fun v z=>by rw[d]at z;cases z⟩)
 keep:=(by rintro j h h' ⟨o,ho,r⟩ k;exact ⟨o,k o ho,r⟩)
 inj:=fun X pins σ H s xs ys hK I h1 h2=>by subst hK;exact I.PN h1 h2
 get:=fun X pins σ H s xs hP hw hK hc I hq=>by subst hP hw hK;obtain⟨its,rv,p,hz⟩:=I.tuple hq;exact⟨its,(fun j h=>h.IsTupleIter it a j∧h.IsTuple a its.toArray),rv,by simpa using Hr (items:=its.toArray) (I.ok.hd hc) n2,fun j q=>⟨q,p⟩,fun j h q=>q.1⟩
theorem BY{a it:Addr}(n2:a≠it):Src P w K a it (fun H xs=>Mq K H a xs) (fun j h=>h.IsListIter it a j) where
 obj:=(by rintro j h ⟨o,ho,c,d⟩;exact ⟨o,ho,fun v z=>by rw[d]at z;cases z⟩)
 keep:=(by rintro j h h' ⟨o,ho,r⟩ k;exact ⟨o,k o ho,r⟩)
 inj:=fun X pins σ H s xs ys hK I h1 h2=>by subst hK;exact I.QJ h1 h2
 get:=fun X pins σ H s xs hP hw hK hc I hq=>by subst hP hw hK;obtain⟨its,rv,p,hz⟩:=I.list hq;exact⟨its,(fun j h=>h.IsListIter it a j∧h.IsList a its.toArray),rv,by simpa using Draws.list (A:=X.A.in1) (I.ok.hd hc) it a n2 its.toArray,fun j q=>⟨q,p.isList⟩,fun j h q=>q.1⟩
theorem pj{sq:Hp→List V→Prop}{ii:Nat→Heap→Prop}{a e it:Addr}(S:Src P w K a it sq ii)(ne:e≠it)(n1:a≠e):rM P w K (.Tuple elts k pos) (Ite sq) [e,it] e (fun i h=>(∃old,IsEnum h e it i old)∧ii i h) where
 mem:=by simp
 obj:=fun i h st b hb=>by
  obtain⟨⟨old,he⟩,hi⟩:=st;rcases List.mem_cons.mp hb with z|z
  ·subst z;exact⟨_,he,fun v z=>by cases z⟩
  ·rw[List.mem_singleton.mp z];exact S.obj _ _ hi
 keep:=fun i h h' st q=>by obtain⟨⟨old,he⟩,hi⟩:=st;exact⟨⟨old,q e (by simp) _ he⟩,S.keep _ _ _ hi fun o ho=>q it (by simp) _ ho⟩
 item:=by
  intro X hP hw hK hc i pins s σ H E I hf st hg;obtain⟨xs,x,hq,hx⟩:=hg;obtain⟨⟨old,he⟩,hi⟩:=st;obtain⟨its,St,rv,D,t1,t2⟩:=S.get X pins σ H s xs hP hw hK hc I hq;subst hP hw hK;obtain⟨u,hu,ru⟩:=rv.get hx;have fe:=hf e (by simp);have fi:=hf it (by simp)
  have QZ:i<its.length:=by
   rcases Nat.lt_or_ge i its.length with z|z
   ·exact z
   ·rw[List.getElem?_eq_none z]at hu;cases hu
  refine wpAny_pyNext_enum_itemD D he (t1 _ hi) QZ ne (by simp[ne,Ne.symm n1]) fun u' h' tk V5 ho R6 ht hsz hk=>?_;have:u'=u:=by rw[hu]at V5;cases V5;rfl
  subst this;refine⟨_,rfl,?_⟩;refine wpAny_letOwnedTupleGo_enum ho fun h2 he2 sb=>?_;have lt:e<s.heap.objs.size:=Heap.lt_size he;have fr:H s.heap.objs.size=none:=I.hok.fresh (Nat.le_refl _);have kk:∀b o,b≠e→b≠it→s.heap.get? b=some o→h2.get? b=some o:=fun b o b1 b2 q=>(sb.2 b b1).trans (hk b o b1 b2 q);have ht2:h2.get? s.heap.objs.size=some { cls:=.type "tuple",data:=.seq #[.int i tk,u'] }:=(sb.2 _ (Nat.ne_of_gt lt)).trans ht;have hok:bN X.prog X.w (upd H s.heap.objs.size (.tup [.int i,x])) h2 s.heap.objs.size (.tup [.int i,x]):=⟨by show 2≤sizeLine;decide,[.int i tk,u'],.cons ⟨tk,rfl⟩ (.cons ru .nil),⟨_,ht2,rfl,_,rfl⟩⟩
  refine⟨.ref s.heap.objs.size,upd H s.heap.objs.size (.tup [.int i,x]),I.RM kk fe fi (Nat.le_refl _) hok,rfl,⟨_,x,fr,rfl,rfl,fun ys hy=>by rw[S.inj X pins σ H s _ _ rfl I hy hq];exact hx⟩,⟨⟨u',by simpa using he2⟩,S.keep _ _ _ (t2 _ _ R6) fun o q=>(sb.2 it (Ne.symm ne)).trans q⟩,fun b hb=>?_⟩
  rw[aj (fun z=>by
   have lb:b<s.heap.objs.size:=by
    rcases List.mem_cons.mp hb with y|y
    ·rw[y];exact lt
    ·rw[List.mem_singleton.mp y];obtain⟨o,ho,_⟩:=S.obj _ _ hi;exact Heap.lt_size ho
   exact absurd z (Nat.ne_of_lt lb))]
  exact(hf b hb).1
 done:=by
  intro X hP hw hK hc i pins s σ H E I hf st hg;obtain⟨xs,hq,hx⟩:=hg;obtain⟨⟨old,he⟩,hi⟩:=st;obtain⟨its,St,rv,D,t1,t2⟩:=S.get X pins σ H s xs hP hw hK hc I hq;subst hP hw hK;have fe:=hf e (by simp);have fi:=hf it (by simp);have hl:=rv.length;have sz:its.length=i:=by omega
  subst sz;exact wpAny_pyNext_enum_endD D he (t1 _ hi) fun h' eb=>⟨rfl,I.Uj (t':=s.toks) (fun b o _ b2 q=>eb b o b2 q) fe fi⟩
 self:=fun A i s Q E st h=>by obtain⟨⟨old,he⟩,_⟩:=st;exact wpAny_pyIter_enum he h
end
section
variable{X:Cx}{elts:List Expr}{k:Nat}{pos p p1:Pos}
def Lb(K:W.Frag)(ta:TA):TI:=fun σ H R=>ta σ H fun vs H1=>∃a,vs= [.ref a]∧(∃xs,Nf K H1 a xs)∧R (Ite fun H xs=>Nf K H a xs) H1
def Lc(K:W.Frag)(ta:TA):TI:=fun σ H R=>ta σ H fun vs H1=>∃a,vs= [.ref a]∧(∃xs,Mq K H1 a xs)∧R (Ite fun H xs=>Mq K H a xs) H1
theorem Ao{a:Expr}{ta:TA}(hg:Gl X "enumerate")(hm:X.mg "enumerate"=none)(ha:PA X [a] ta)(hs:starEach [a] X.env= [(false,eval a X.env)]:=by rfl):PI X (.Tuple elts k pos) (.Call (.Name "enumerate" p) [a] [] p1) (Lb X.K ta):=by
 intro pins s σ H R I h;refine Call_ (il I hg hm (show bootBuiltins "enumerate"=some (.type "enumerate") by decide+kernel) (PyProof.Rows.callWith_type1 (B_ (ha p1 pins s σ H _ I h) ?_) hs rfl));rintro us s1 ⟨vs,H1,I1,r1,q1⟩;obtain⟨a,e,⟨xs,hq⟩,q⟩:=q1;subst e
 cases r1 with
 |cons r rr=>
  cases rr
  cases r
  obtain⟨its,rv,t,hz⟩:=I1.tuple hq;refine vG (show s1.heap.IsTuple a its.toArray from t) ?_;have z:(s1.heap.push (rX a)).objs.size=s1.heap.objs.size+1:=Heap.size_push ..;have g:=Heap.get?_push_size (s1.heap.push (rX a)) (o:=tE s1.heap.objs.size) rfl;rw[z]at g;have kk:∀b o,s1.heap.get? b=some o→((s1.heap.push (rX a)).push (tE s1.heap.objs.size)).get? b=some o:=fun b o e=>Heap.get?_push_of_some _ (Heap.get?_push_of_some _ e);have la:a<s1.heap.objs.size:=by obtain⟨o,ho,_⟩:=t;exact Heap.lt_size ho
  refine wpAny_pyIter_enum (it:=s1.heap.objs.size) (i:=0) (old:=.none) g ?_;refine⟨s1.heap.objs.size+1,[s1.heap.objs.size+1,s1.heap.objs.size],_,_,H1,rfl,I1.kept (t':=s1.toks) kk,pj (BX (a:=a) (Nat.ne_of_lt la)) (Nat.succ_ne_self _) (Nat.ne_of_lt (Nat.lt_succ_of_lt la)),⟨⟨_,g⟩,⟨_,Heap.get?_push_of_some _ (Heap.get?_push_size _ rfl),rfl,rfl⟩⟩,fun b hb=>?_,q⟩
  have Rt:s1.heap.objs.size≤b:=by
   rcases List.mem_cons.mp hb with y|y
   ·rw[y];exact Nat.le_succ _
   ·rw[List.mem_singleton.mp y];exact Nat.le_refl _
  exact I1.QV Rt (I1.hok.fresh Rt)
theorem Ap{a:Expr}{ta:TA}(hg:Gl X "enumerate")(hm:X.mg "enumerate"=none)(ha:PA X [a] ta)(hs:starEach [a] X.env= [(false,eval a X.env)]:=by rfl):PI X (.Tuple elts k pos) (.Call (.Name "enumerate" p) [a] [] p1) (Lc X.K ta):=by
 intro pins s σ H R I h;refine Call_ (il I hg hm (show bootBuiltins "enumerate"=some (.type "enumerate") by decide+kernel) (PyProof.Rows.callWith_type1 (B_ (ha p1 pins s σ H _ I h) ?_) hs rfl));rintro us s1 ⟨vs,H1,I1,r1,q1⟩;obtain⟨a,e,⟨xs,hq⟩,q⟩:=q1;subst e
 cases r1 with
 |cons r rr=>
  cases rr
  cases r
  obtain⟨its,rv,t,hz⟩:=I1.list hq;have t:=t.isList;have la:a<s1.heap.objs.size:=by obtain⟨o,ho,_⟩:=t;exact Heap.lt_size ho
  refine call_enumerate_list t fun h2 hE hI hsz kk=>?_;refine wpAny_pyIter_enum hE ?_;refine⟨s1.heap.objs.size+1,[s1.heap.objs.size+1,s1.heap.objs.size],_,_,H1,rfl,I1.kept (t':=s1.toks) kk,pj (BY (a:=a) (Nat.ne_of_lt la)) (Nat.succ_ne_self _) (Nat.ne_of_lt (Nat.lt_succ_of_lt la)),⟨⟨_,hE⟩,hI⟩,fun b hb=>?_,q⟩
  have Rt:s1.heap.objs.size≤b:=by
   rcases List.mem_cons.mp hb with y|y
   ·rw[y];exact Nat.le_succ _
   ·rw[List.mem_singleton.mp y];exact Nat.le_refl _
  exact I1.QV Rt (I1.hok.fresh Rt)
end
end L2
namespace L3
open PySem PySem.Spec PyProof.Rows L2
noncomputable def R8:Nat→List PV→List PV
 |_,[]=>[]
 |n,x::r=>.tup [.int n,x]::R8 (n+1) r
theorem mY:∀(xs:List PV)(n:Nat),(R8 n xs).length=xs.length
 |[],_=>rfl
 |_::r,n=>by simp[R8,mY r]
theorem xg:∀(xs:List PV)(n i:Nat),(R8 n xs)[i]? =xs[i]?.map fun x=>PV.tup [.int ((n+i:Nat):Int),x]
 |[],_,_=>by simp[R8]
 |x::r,n,0=>by simp[R8]
 |x::r,n,i+1=>by simp only[R8,List.getElem?_cons_succ,xg r];congr 2;funext y;congr 3;omega
section
variable{K:W.Frag}{T:Tab}{F H:Hp}{m:List Addr}
theorem tq{sq:Hp→List V→Prop}{xs:List PV}{vs:List V}(st:∀F1 H1,cy F F1→cy F1 H1→sq H1 vs)(r:aq K T F m xs vs):rP K T (Ite sq) (R8 0 xs) F m H:=by
 have at':∀{F1:Hp}{m1:List Addr}{h1:List PO}{H1:Hp},bf F m H F1 m1 H1→RelH K T F1 m1 h1 H1→sq H1 vs:=fun s R=>st _ _ s.fz R.same;refine⟨fun i F1 m1 h1 H1 s R hi=>?_,fun i F1 m1 h1 H1 v H2 s R hi y=>?_,fun F1 m1 h1 H1 s R=>⟨vs,at' s R,by rw[mY,r.length]⟩⟩
 ·rw[mY,r.length]at hi;exact⟨vs,vs[i],at' s R,List.getElem?_eq_getElem hi⟩
 ·obtain⟨p,y,hp,rfl,rfl,q⟩:=y;rw[mY]at hi;obtain⟨v',S6,Tv⟩:=r.get (List.getElem?_eq_getElem hi);have:v'=y:=by have z:=q vs (at' s R);rw[S6]at z;cases z;rfl
  subst this;obtain⟨s2,R2⟩:=bf.lay (o:=.tup [.int i,v']) R hp;refine⟨_,_,.tup [.int i,xs[i]],s2,R2,?_,.tup (.inl (.inl aK)) (.cons (.int i) (.cons (s2.rep (s.rep Tv)) .nil))⟩;rw[xg,List.getElem?_eq_getElem hi];simp
end
def DX(ps:List PV)(h:List PO):Res (List PV):=match ps with
 |[.tup xs]=>.ok (R8 0 xs) h
 |[.lst xs]=>.ok (R8 0 xs) h
 |_=>.bad
def iO(f:Ax):Ax:=fun ρ h=>(f ρ h).bind DX
section
variable{X:Cx}{T:Tab}{Ew:VK}{a:Expr}{elts:List Expr}{f:Ax}{k:Nat}{pos p p1:Pos}
theorem Cr(hg:Gl X "enumerate")(hm:X.mg "enumerate"=none)(ha:RA X T Ew [a] f)(hs:starEach [a] X.env= [(false,eval a X.env)]:=by rfl):RI X T Ew (.Tuple elts k pos) (.Call (.Name "enumerate" p) [a] [] p1) (iO f):=by with_unfolding_all
 intro pins s σ H R I ⟨F,m,ρ,h,RR,w⟩
 by_cases ht:∃xs h1,f ρ h=.ok [.tup xs] h1
 ·obtain⟨xs,h1,e⟩:=ht;refine Ao hg hm ha hs pins s σ H R I ⟨F,m,ρ,h,RR,?_⟩;unfold iO at w;rw[e]at w ⊢;intro F1 m1 H1 x s1 R1 r1;have w1:=aG.step s1 (show aG X.K T _ F m H R Ew (.ok (R8 0 xs) h1)from w)
  cases r1 with
  |cons r rr=>
   cases rr
   cases r with
   |tup sq rs=>exact⟨_,rfl,⟨_,R1.same.O9 sq⟩,aG.here w1 R1 fun H=>tq (fun F1 H1 a b=>b.O9 (a.O9 sq)) rs⟩
 ·refine Ap hg hm ha hs pins s σ H R I ⟨F,m,ρ,h,RR,?_⟩;unfold iO at w
  cases e:f ρ h with
  |bad=>rw[e]at w;exact w
  |exc v h1=>rw[e]at w;exact w
  |ok ps h1=>
   rw[e]at w;intro F1 m1 H1 x s1 R1 r1;have w1:=aG.step s1 (show aG X.K T _ F m H R Ew (DX ps h1)from w);unfold DX at w1
   split at w1
   ·exact(ht ⟨_,_,e⟩).elim
   ·cases r1 with
    |cons r rr=>
     cases rr
     cases r with
     |lst sq rs=>have q:Mq X.K F1 _ _:=.inl (.inl sq);exact⟨_,rfl,⟨_,R1.same.seq q⟩,aG.here w1 R1 fun H=>tq (fun F1 H1 a b=>b.seq (a.seq q)) rs⟩
   ·exact w1.elim
end
end L3
namespace L2
open PySem PySem.Spec PyProof.Rows
end L2
namespace L3
open PySem PySem.Spec PyProof.Rows L2
theorem vU:∀{cs:List String}{us:List Value},aR (cs.map V.ty) us→us=cs.map Value.type
 |[],_,.nil=>rfl
 |c::r,_,.cons h t=>by have e:=vU t;rw[e];exact congrArg (· ::r.map Value.type) (show _=Value.type c from h)
theorem rH{X:Cx}:cY X (.builtin "isinstance") (fun xs H Q=>∃(x:V)(a:Addr)(cs:List String)(t:String)(b:Bool),xs= [x,.ref a]∧Tw X.K H x t∧Nf X.K H a (cs.map V.ty)∧W.kitAny X.K (.type t) (cs.map Value.type)=some b∧Q (.bl b) H):=by
 intro pins s σ H xs us Q I r h;obtain⟨x,a,cs,t,b,rfl,ty,sq,e,q⟩:=h;obtain⟨u,w',rfl,ru,Rh⟩:=yW r
 cases(show w'=Value.ref a from Rh)
 have fin:∀tk,EP X pins σ Q (.bool b) { s with toks:=tk }:=fun tk=>⟨.bl b,H,I.tok tk,rfl,q⟩
 obtain⟨its,rv,⟨o,g1,g2,n,g3⟩,_⟩:=I.tuple sq;obtain rfl:=vU rv;obtain⟨oc,od,Z0,Ud⟩:=o
 cases(show oc=Value.type "tuple" from g2)
 cases(show Z0=Data.seq (cs.map Value.type).toArray n from g3)
 cases ty with
 |non=>cases(show u=Value.none from ru);exact W.kia_tup W.kitx_none I.Qq True.intro g1 e (fun z=>nomatch z) fin
 |bl y=>cases(show u=Value.bool y from ru);exact W.kia_tup W.kitx_bool I.Qq True.intro g1 e (fun z=>nomatch z) fin
 |int i=>obtain⟨t,q⟩:=(show∃t,u=Value.int i t from ru);cases q;exact W.kia_tup W.kitx_int I.Qq True.intro g1 e (fun z=>nomatch z) fin
 |str y=>obtain⟨t,q⟩:=(show∃t,u=Value.str y t from ru);cases q;exact W.kia_tup W.kitx_str I.Qq True.intro g1 e (fun z=>nomatch z) fin
 |lst ea=>
  cases ru
  obtain⟨its,_,⟨o,n,h1,h2,_,_⟩,_⟩:=I.list ea;exact W.kia_tup W.kitx_list I.Qq ⟨_,h1,h2⟩ g1 e (fun z=>nomatch z) fin
 |tup ea=>
  cases ru
  obtain⟨its,_,⟨o,h1,h2,_⟩,_⟩:=I.tuple ea;exact W.kia_tup W.kitx_tuple I.Qq ⟨o,h1,h2⟩ g1 e (fun z=>nomatch z) fin
 |dct ea=>
  cases ru
  obtain⟨_,_,vs,_,p⟩:=gP I.hok ea;obtain⟨o,es,ep,h1,h2,_⟩:=p;exact W.kia_tup W.kitx_dict I.Qq ⟨o,h1,h2.1⟩ g1 e (fun z=>nomatch z) fin
theorem pW(K:W.Frag){t:String}(ht:t∈ ["NoneType","bool","int","str","tuple","dict","list"]):∀{cs:List String},cs.all qb.contains=true→W.kitAny K (.type t) (cs.map Value.type)=some (cs.any (sk t))
 |[],_=>rfl
 |c::r,h=>by
  rw[List.all_cons,Bool.and_eq_true]at h;rw[List.map_cons,W.kitAny,pV K ht h.1,List.any_cons]
  cases sk t c with
  |true=>rfl
  |false=>exact pW K ht h.2
noncomputable def vY:List PV→Option (List String)
 |[]=>some []
 |.ty c::r=>match vY r with
  |some l=>some (c::l)
  |none=>none
 |_::_=>none
theorem ph{K:W.Frag}{T:Tab}{F:Hp}{m:List Addr}:∀{ps:List PV}{cs:List String}{vs:List V},vY ps=some cs→aq K T F m ps vs→vs=cs.map V.ty:=by
 intro ps cs vs e q;cases q with
 |nil=>cases e;rfl
 |cons r1 r2=>
  cases r1 with
  |ty c=>
   unfold vY at e
   split at e
   ·rename_i l z
    cases e
    rw[ph z r2];rfl
   ·cases e
  |_=>cases e
def me(ps:List PV)(h:List PO):Res PV:=match ps with
 |[p,.tup ts]=>match vY ts with
  |some cs=>if cs.all qb.contains=true then match lV h p with
    |some t=>.ok (.bl (cs.any (sk t))) h
    |none=>.bad
   else .bad
  |none=>.bad
 |_=>.bad
theorem uC{K:W.Frag}{T:Tab}:qz K T (fun xs H Q=>∃(x:V)(a:Addr)(cs:List String)(t:String)(b:Bool),xs= [x,.ref a]∧Tw K H x t∧Nf K H a (cs.map V.ty)∧W.kitAny K (.type t) (cs.map Value.type)=some b∧Q (.bl b) H) me:=by
 intro F m h H xs ps Q Ew R rp w;unfold me at w
 split at w
 ·rename_i p ts;obtain⟨x,y,rfl,rx,ry⟩:=rp.two
  split at w
  ·rename_i cs ec
   split at w
   ·rename_i hc
    split at w
    ·rename_i t e
     cases ry with
     |tup sq rr=>rw[ph ec rr]at sq;exact⟨x,_,cs,t,_,rfl,nh R rx e,R.same.O9 sq,pW K (ni e) hc,aS w R (.bl _)⟩
    ·exact w.elim
   ·exact w.elim
  ·exact w.elim
 ·exact w.elim
section
variable{X:Cx}{T:Tab}{Ew:VK}{pos p0:Pos}
theorem zL{e:Expr}{es:List Expr}{f:Ax}(hg:Gl X "isinstance")(hm:X.mg "isinstance"=none)(ha:RA X T Ew (e::es) f)
  (he:sE0 X e es:=by rfl) (Mu:sP0 X es pos:=by rfl):
  RE X T Ew (.Call (.Name "isinstance" p0) (e::es) [] pos) (cN me f):=by with_unfolding_all exact(
  gH rH uC hg hm (by decide+kernel) ha (by decide) (by decide) he Mu)
end
end L3
namespace HT
open PySem PySem.Spec PyProof.Rows
section
variable{prog:Program}{w:World}{A:Around}{E:Value→Shared→Prop}{s:Shared}
theorem Px{t sl:Addr}{items:Array Value}{vl vu:Value}{lo hi:Option Int}{Q:Value→Shared→Prop}(ht:IsTup s.heap t items)(hs:s.heap.IsSliceOf sl vl vu .none)(pl:IsPart vl lo)(pu:IsPart vu hi)
  (hw:G3 items.size 0 lo=0∧G3 items.size items.size hi=items.size) (h:Q (.ref t) s):wpAny (model prog w) A (getItem (.ref t) (.ref sl)) Q E s:=by
 obtain⟨os,Uw,XF,W2⟩:=id hs;have Y5:s.TypeIs (.ref sl) "slice":=⟨os,Uw,XF⟩
 unfold getItem
 try with_reducible refine wpAny_holding ?_
 first|refine wpAny_bind (wpAny_pure ?_)|skip
 refine wpAny_bind (wpAny_sequenceKey ht.typeIs (by decide) ?_)
 refine wpAny_bind (wpAny_callSpecial?_slot (name:=Str.ofString "__getitem__") ht.typeIs PyProof.Rows.slot_tuple_getitem
  (wpAny_call_entry PyProof.Rows.slot_tuple_getitem ht.typeIs entry_tuple_getitem ?_ (args_tuple_getitem _ _)))
 show wpAny _ _ (Builtin.Tuple.tupleItemsOf (.ref t) >>= _) _ _ s;refine wpAny_bind (tupleItemsOf_ ht ?_);refine wpAny_bind (wpAny_typeOf Y5 ?_);rw[if_pos (by decide)];refine wpAny_bind (iC hs pl pu ?_)
 have yes:(((G3 items.size 0 lo:Nat):Int)==0&&(1:Int)==1&&(G3 items.size items.size hi - G3 items.size 0 lo)==items.size)=true:=by rw[hw.1,hw.2];simp
 show wpAny _ _ (if(((G3 items.size 0 lo:Nat):Int)==0&&(1:Int)==1&&(G3 items.size items.size hi - G3 items.size 0 lo)==items.size)=true then _ else _) _ _ s;rw[if_pos yes];obtain⟨⟨ct,dt,da,ZR⟩,hot,hct,n,hdt⟩:=id ht
 cases(show ct=Value.type "tuple" from hct)
 wp_walk using AutoSeq1.wpAny_loadPart' hot
 exact⟨_,rfl,wpAny_pure h⟩
end
end HT
namespace L2
open PySem PySem.Spec PyProof.Rows
def Iz(K:W.Frag):V→Option Int→Option Int→Hp→VK→Prop:=fun x lo hi H Q=>∃a xs,x=.ref a∧Nf K H a xs∧(HT.G3 xs.length 0 lo=0∧HT.G3 xs.length xs.length hi=xs.length)∧Q (.ref a) H
theorem Fm{X:Cx}:Tz X (Iz X.K):=by
 intro pins s σ H x v vl vu lo hi sl Q I rx hs pl pu h;obtain⟨a,xs,rfl,hx,hw,q⟩:=h
 cases rx
 obtain⟨its,r,ht,hz⟩:=I.tuple hx;have E_:its.toArray.size=xs.length:=by rw[List.size_toArray];exact r.length.symm
 exact⟨"tuple",_,PyProof.Rows.slot_tuple_getitem.lookup,ht.typeIs,HT.Px ht hs pl pu (by rw[E_];exact hw) ⟨.ref a,H,I,rfl,q⟩⟩
end L2
namespace L3
open PySem PySem.Spec PyProof.Rows L2
def mL(p:PV)(lo hi:Option Int)(h:List PO):Res PV:=match p with
 |.tup xs=>if HT.G3 xs.length 0 lo=0∧HT.G3 xs.length xs.length hi=xs.length then .ok (.tup xs) h else .ok (.tup (cut xs lo hi)) h
 |p=>Xr p lo hi h
def ji(a:Ex)(lo hi:Ox):Ex:=fun ρ h=>(a ρ h).bind fun p h1=>(lo ρ h1).bind fun l h2=>(hi ρ h2).bind fun u h3=>mL p l u h3
section
variable{X:Cx}{T:Tab}{Ew:VK}{a:Expr}{fa:Ex}{pos:Pos}
theorem Af{K:W.Frag}{F H:Hp}{m:List Addr}{h:List PO}{Q:VK}{p:PV}{x:V}{lo hi:Option Int}(R:RelH K T F m h H)(rp:aL K T F m p x)(w:aG K T (aL K T) F m H Q Ew (mL p lo hi h)):ID K x lo hi H Q∨Iz K x lo hi H Q:=by
 unfold mL at w
 split at w
 ·rename_i xs
  split at w
  ·rename_i hz;obtain⟨a,vs,rfl,ea,ra⟩:=fN R rp;refine .inr ⟨a,vs,rfl,ea,by rw[← ra.length];exact hz,?_⟩;exact aG.here w R rp
  ·rename_i hz;refine .inl (wu (Ew:=Ew) R rp ?_);unfold Xr;dsimp only;rw[if_neg hz];exact w
 ·exact .inl (wu R rp w)
theorem xY{lo hi:Option Expr}{fl fu:Ox}{p2:Pos}(ha:RE X T Ew a fa)(hl:RO X T Ew lo fl)(hh:RO X T Ew hi fu):RE X T Ew (.Subscript a (.Slice lo hi none p2) pos) (ji fa fl fu):=by with_unfolding_all
 refine PE.imp (Ar (L2.Tz.or (L2.Tz.or Fl (L2.Tz.or Fk Cd)) Fm) ha hl hh) ?_;rintro σ H Q ⟨F,m,ρ,h,R,p⟩;refine⟨F,m,ρ,h,R,(aG.bind p).mono ?_⟩;rintro x H1 ⟨F1,m1,h1,p1,s1,R1,r1,w1⟩;refine⟨F1,m1,ρ,h1,R.of s1 R1,(aG.bind w1).mono ?_⟩;rintro l H2 ⟨F2,m2,h2,l2,s2,R2,e2,w2⟩;subst e2;refine⟨F2,m2,ρ,h2,(R.of s1 R1).of s2 R2,(aG.bind w2).mono ?_⟩;rintro u H3 ⟨F3,m3,h3,u3,s3,R3,e3,w3⟩;subst e3;exact Af R3 (s3.rep (s2.rep r1)) w3
end
noncomputable def U0(K:W.Frag)(T:Tab)(np:Nat)(fn:List PV→Res PV):Sp:=fun vs H Q _=>∃F ps,ps.length=np∧cy F H∧aq K T F [] ps vs∧aG K T (aL K T) F [] H Q (fun _ _=>False) (fn ps)
theorem Cb{K:W.Frag}{T:Tab}{np:Nat}{fn:List PV→Res PV}{vs:List V}{H:Hp}{Q:VK}{E:XK}(h:U0 K T np fn vs H Q E):vs.length=np:=by obtain⟨F,ps,e,_,r,_⟩:=h;rw[← r.length];exact e
def Bo(v:PV)(h:List PO):Res PV:=match v with
 |.ref i=>match h[i]? with
  |some o=>if o.pure=true then .ok (.ref 0) [o]else .bad
  |none=>.bad
 |_=>.bad
def kQ(f:Sx)(np n:Nat)(ps:List PV):Res PV:=if ps.length=np then match f (ps.map some++List.replicate (n - ps.length) none) []with
  |.rt v h1=>Bo v h1
  |_=>.bad
 else .bad
section
variable{P:Program}{w:World}{K:W.Frag}{mg:Str→Option Value}{base:Heap}{T:Tab}
theorem Hn{x C_:Str}{st:Stmt}{f:Addr}{fd:FuncData}{N ps:List Str}{k:Nat}{g:Sx}(Fn:T9 K x C_ st f fd)(Sc:jd N ps (aV st))
  (hb:∀(K8:Value)(A:Around)(outer:List Env)(s:Shared)(H:Hp)(E:XK),dR k (A.deeper (envOfC C_ (aV st) s.heap.objs.size f K8))→
   Tj (oG Pg P w K mg base N C_ (aV st) f K8 A outer s H E).Ur T (fun _ _=>False) (eg st) g):
  eD P w K mg base Pg (k+1) f fd ps (U0 K T ps.length (kQ g ps.length N.length)):=by with_unfolding_all
 refine Fn.ok Sc (fun vs H Q E h=>Cb h) fun K8 A outer s H vs Q E hr h=>⟨_,hb K8 A outer s H E hr,?_⟩
 obtain⟨F,qs,hl,sm,r,q⟩:=h;have R0:gZ K T F [] (qs.map some++List.replicate (N.length - qs.length) none) [] (hZ N vs) H:=⟨⟨sm,rfl,fun i o a h1 h2=>by simp at h1,List.nodup_nil⟩,pK r⟩
 refine⟨F,[],_,[],R0,?_⟩;unfold kQ at q;rw[if_pos hl]at q
 cases z:g (qs.map some++List.replicate (N.length - qs.length) none) []with
 |nx ρ h1=>rw[z]at q;exact q.elim
 |rt p h1=>
  rw[z]at q;intro F' m' H' x s R' rp;dsimp only[Bo]at q
  split at q
  ·rename_i i
   split at q
   ·rename_i o eo
    split at q
    ·rename_i po
     cases rp with
     |@ref _ a em=>
      refine q F' [a] H' (.ref a) ⟨s.fz,⟨[a],rfl⟩,s.fr,s.dom,fun j b hj e=>?_,s.Pz⟩ ⟨R'.same,rfl,fun j o' b e1 e2=>?_,by simp⟩ (.ref rfl)
      ·cases j with
       |zero=>simp at e;subst e;exact s.new i a (Nat.zero_le _) em
       |succ j=>simp at e
      ·cases j with
       |zero=>simp at e1 e2;subst e1 e2;exact(R'.obj i o a eo em).I_ po
       |succ j=>simp at e1
    ·exact q.elim
   ·exact q.elim
  ·exact q.elim
 |bk _ _=>rw[z]at q;exact q.elim
 |ct _ _=>rw[z]at q;exact q.elim
 |exc _ _=>rw[z]at q;exact q.elim
 |bad=>rw[z]at q;exact q.elim
end
def oK(fn:List PV→Res PV)(ps:List PV)(h:List PO):Res PV:=match Ms ps h with
 |some (qs,h2)=>match fn qs with
  |.ok (.ref 0) [o]=>if o.pure=true then .ok (.ref h2.length) (h2++ [o])else .bad
  |_=>.bad
 |none=>.bad
def eW(fn:List PV→Res PV)(as:Ax):Ex:=fun ρ h=>(as ρ h).bind (oK fn)
section
variable{X:Cx}{T:Tab}{Ew:VK}{e:Expr}{es:List Expr}{fs:Ax}{pos p0:Pos}{k:Nat}{f:Addr}{fd:FuncData}{ps:List Str}{fn:List PV→Res PV}{x:Str}
theorem RelH.mem_some{K:W.Frag}{F H:Hp}{m:List Addr}{h:List PO}(R:RelH K T F m h H){a:Addr}(ha:a∈m):∃o,H a=some o:=by
 obtain⟨i,hi⟩:=List.mem_iff_getElem?.mp ha
 have XC:i<h.length:=by
  rw[R.len];rcases Nat.lt_or_ge i m.length with q|q
  ·exact q
  ·rw[List.getElem?_eq_none q]at hi;cases hi
 have q:=R.obj i h[i] a (List.getElem?_eq_getElem XC) hi
 cases ho:h[i]with
 |lst xs=>rw[ho]at q;obtain⟨_,vs,z,_⟩:=q;exact⟨_,z⟩
 |dct xs=>rw[ho]at q;obtain⟨_,vs,z,_⟩:=q;exact⟨_,z⟩
 |o9 xs=>rw[ho]at q;obtain⟨_,_,o,z⟩:=q;exact⟨_,R.same _ _ z⟩
theorem vI{F H:Hp}{m:List Addr}{h:List PO}{Q:VK}{K:W.Frag}{np:Nat}{qs:List PV}{vs:List V}{E:XK}(R7:∀qs v h',fn qs=.ok v h'→qs.length=np)(R:RelH K T F m h H)(r:aq K T F m qs vs)(w:aG K T (aL K T) F m H Q Ew (oK fn qs h)):U0 K T np fn vs H Q E:=by
 unfold oK at w
 cases z:Ms qs h with
 |none=>rw[z]at w;exact w.elim
 |some ab=>
  obtain⟨q2,h2⟩:=ab;rw[z]at w;dsimp only at w;obtain⟨F2,s2,R2,r2,hp⟩:=ou R r z
  split at w
  ·rename_i o y
   split at w
   ·rename_i po;refine⟨F2,q2,R7 _ _ _ y,R2.same,r2.I_ hp,?_⟩;rw[y];intro F' m' H' x s R' rx
    cases rx with
    |@ref _ a em=>
     have hl:m'.length=1:=by have:=R'.len;simpa using this.symm
     obtain⟨b,rfl⟩:∃b,m'= [b]:=by
      cases m' with
      |nil=>simp at hl
      |cons b r=>cases r with
       |nil=>exact⟨b,rfl⟩
       |cons _ _=>simp at hl
     simp at em;subst em;have na:H b=none:=s.new 0 b (Nat.zero_le _) rfl
     have nm:b∉m:=fun hb=>by obtain⟨u,hu⟩:=R2.mem_some hb;rw[na]at hu;cases hu
     have s3:bf F2 m H F' (m++ [b]) H':=⟨s.fz,⟨[b],rfl⟩,fun c u hc _=>s.fr c u hc (by simp),s.dom,fun i c hi e=>(by
      have W0:i=m.length:=by
       rcases Nat.lt_or_ge i (m.length+1)with q|q
       ·omega
       ·rw[List.getElem?_eq_none (by simpa using q)]at e;cases e
      subst W0;simp at e;subst e;exact na),fun c u ec=>(s.Pz c u ec).imp id (Or.imp id fun q=>by simp at q)⟩
     refine w F' (m++ [b]) H' (.ref b) (s2.trans s3) ⟨R'.same,by simp[R2.len],fun i u c e1 e2=>?_,?_⟩ (.ref (by rw[R2.len];simp))
     ·rcases Nat.lt_or_ge i m.length with hi|hi
      ·rw[List.getElem?_append_left (by rw[R2.len];exact hi)]at e1;rw[List.getElem?_append_left hi]at e2;have q:=R2.obj i u c e1 e2
       have live:F2 c=none→(∃u,H c=some u)→F' c=none:=fun n ⟨u,hu⟩=>by
        cases z:F' c with
        |none=>rfl
        |some o=>
         rcases s.Pz c o z with y|y|y
         ·rw[n]at y;cases y
         ·rw[hu]at y;cases y
         ·simp at y
       cases u with
       |lst xs=>obtain⟨f0,ws,z,rr⟩:=q;exact⟨live f0 ⟨_,z⟩,ws,s.fr _ _ z (by simp),s3.reps rr⟩
       |dct xs=>obtain⟨f0,ws,z,kk,rr⟩:=q;exact⟨live f0 ⟨_,z⟩,ws,s.fr _ _ z (by simp),kk,s3.reps rr⟩
       |o9 p'=>obtain⟨r1,r3,o,r4⟩:=q;exact⟨s3.rep r1,r3,o,s.fz _ _ r4⟩
      ·rw[List.getElem?_append_right (by rw[R2.len];exact hi),R2.len]at e1;rw[List.getElem?_append_right hi]at e2;have q:=R'.obj (i - m.length) u c e1 e2
       have pu:u.pure=true:=by
        cases hz:i - m.length with
        |zero=>rw[hz]at e1;simp at e1;rw[← e1];exact po
        |succ _=>rw[hz]at e1;simp at e1
       exact q.I_ pu
     ·rw[List.nodup_append];exact⟨R2.nd,by simp,fun x hx y hy=>by simp at hy;subst hy;intro z;subst z;exact nm hx⟩
   ·exact w.elim
  ·exact w.elim
theorem zQ(F:eD X.prog X.w X.K X.mg X.base Pg k f fd ps (U0 X.K T ps.length fn))(R7:∀qs v h',fn qs=.ok v h'→qs.length=ps.length)(hr:dR k X.A)(hg:Gl X x)(hm:X.mg x=some (.ref f))(hk:W.keepIn X.K (.ref f)=true)(hb:ga X.K fd ps [])
  (ha:RA X T Ew (e::es) fs) (Qh:nD0 x:=by decide)(he:sE0 X e es:=by rfl) (Mu:sP0 X es pos:=by rfl):
  RE X T Ew (.Call (.Name x p0) (e::es) [] pos) (eW fn fs):=by with_unfolding_all
 refine PE.imp (qN F hr hg hm hk hb .nil sJ ha Qh he Mu) ?_;rintro σ H Q ⟨F,m,ρ,h,R,p⟩;refine⟨F,m,ρ,h,R,(aG.bind p).mono ?_⟩;rintro vs H1 ⟨F1,m1,h1,qs,s1,R1,r1,w1⟩
 rw[List.append_nil];exact vI R7 R1 r1 w1
theorem sw{f:Sx}{np n:Nat}:∀qs v h',kQ f np n qs=.ok v h'→qs.length=np:=fun qs v h' e=>by
 unfold kQ at e
 split at e
 ·assumption
 ·cases e
end
end L3
namespace L2
open PySem PySem.Spec PyProof.Rows
section
variable{X:Cx}{pins:List (Addr×Obj)}{σ:St}{H:Hp}{s:Shared}{a b:Addr}{kvs more:List (Key×V)}{A:Around}{E:Value→Shared→Prop}
theorem Bw{Q:Value→Shared→Prop}(I:Inv X pins σ H s)(e:H a=some (.dK kvs))(e2:Rd H b (.dK more))(ne:a≠b)(hz:kvs.length+more.length≤sizeLine)(h:∀s',Inv X pins σ (upd H a (.dK (cQ kvs more))) s'→Q .none s'):
  wpAny (model X.prog X.w) A (call (.builtin "dict.update") [.ref a,.ref b]) Q E s:=by
 obtain⟨z,hd,vs,rel,dd⟩:=tG I.hok e;obtain⟨z2,hd2,ms,Wm,VH⟩:=gP I.hok e2
 refine call_meetsIn PySem.F.slot_dict_update dd.typeIs PySem.F.entry_dict_update (PySem.F.args_dict_update_2 _ _) (meets_dict_update (aY X.prog X.w) a b ne hd2)
  ⟨vs,ms,dd,VH,by rw[← rel.length,← Wm.length];exact hz,fun h' Tf _ hs=>h _ ?_⟩
 have he:∃q,h'.get? a=some q:=let⟨q,_,_,hq,_⟩:=Tf;⟨q,hq⟩;exact lK I (by rw[e];exact True.intro) hs he (oE (Nat.le_trans (fP more kvs) hz) hd (Wm.merge rel) Tf)
end
section
variable{X:Cx}{o e:Expr}{td ty:TE}{apos G7:Pos}
def Ie(td ty:TE):TE:=fun σ H Q=>td σ H fun x H1=>∃a,x=.ref a∧Yb H1 a∧ty σ H1 fun y H2=>∃b kvs more,y=.ref b∧a≠b∧H2 a=some (.dK kvs)∧Rd H2 b (.dK more)∧kvs.length+more.length≤sizeLine∧Q .non (upd H2 a (.dK (cQ kvs more)))
theorem Df(ho:PE X o td)(he:PE X e ty)(m:M1 X o "update" apos e G7):PE X (.Call (.Attribute o "update" apos) [e] [] G7) (Ie td ty):=by intro pins s σ H Q I h;refine wpAny_Call_method m.base m.few m.line PySem.F.plainAttrs_dict PySem.F.slot_dict_update PySem.F.type_dict_update (B_ (ho pins s σ H _ I h) ?_);rintro u s1 ⟨x,H1,I1,rx,a,ex,d,q1⟩;subst ex;obtain rfl:u=Value.ref a:=rx;obtain⟨t1,t2,_⟩:=vg I1 d;refine⟨t1,t2,?_⟩;rw[m.trees];refine Calls.callWith_builtin rfl (Calls.evalArgs_plain (Calls.spliced_cons (B_ (he pins s1 σ H1 _ I1 q1) ?_)));rintro iv s2 ⟨y,H2,I2,ry,b,kvs,more,ey,ne,ea,eb,hz,q2⟩;apply Calls.spliced_nil;subst ey;obtain rfl:iv=Value.ref b:=ry;exact Bw I2 ea eb ne hz fun s3 I3=>⟨.non,_,I3,rfl,q2⟩
end
end L2
namespace L3
open PySem PySem.Spec PyProof.Rows L2
section
variable{X:Cx}{T:Tab}{Ew:VK}{a b e o k d:Expr}{fa fb fo fk fd fe:Ex}{pos p0:Pos}
def mF(p q d:PV)(h:List PO):Res PV:=match cG h p,eS q with
 |some (n,kps),some k=>match jk kps k with
  |some v=>.ok v (h.set n (.dct (oB kps k)))
  |none=>.ok d h
 |_,_=>.bad
def lP(fo fk fd:Ex):Ex:=fun ρ h=>(fo ρ h).bind fun p h1=>if(cG h1 p).isSome=true then(fk ρ h1).bind fun q h2=>(fd ρ h2).bind fun d h3=>mF p q d h3 else .bad
theorem Cw{apos:Pos}(ho:RE X T Ew o fo)(hk:RE X T Ew k fk)(hd:RE X T Ew d fd)(mm:M2 X o "pop" apos k d pos):RE X T Ew (.Call (.Attribute o "pop" apos) [k,d] [] pos) (lP fo fk fd):=by with_unfolding_all
 refine PE.imp (Av ho hk hd mm) ?_;rintro σ H Q ⟨F,m,ρ,h,R,p⟩;refine⟨F,m,ρ,h,R,(aG.bind p).mono ?_⟩;rintro x H1 ⟨F1,m1,h1,p1,s1,R1,r1,w1⟩
 by_cases hs:(cG h1 p1).isSome=true
 ·rw[if_pos hs]at w1;obtain⟨⟨n0,k0⟩,e0⟩:=Option.isSome_iff_exists.mp hs;obtain⟨a,Vq,rfl,em0,_,Y7,_⟩:=gx R1 r1 e0;refine⟨a,rfl,.inl ⟨Vq,.inl Y7⟩,F1,m1,ρ,h1,R.of s1 R1,(aG.bind w1).mono ?_⟩;rintro y H2 ⟨F2,m2,h2,p2,s2,R2,r2,w2⟩;refine⟨F2,m2,ρ,h2,(R.of s1 R1).of s2 R2,(aG.bind w2).mono ?_⟩;rintro z H3 ⟨F3,m3,h3,p3,s3,R3,r3,w3⟩;unfold mF at w3
  split at w3
  ·rename_i n kps kk el ek;obtain⟨a',kvs,ea,em,hF,hH,rr⟩:=gx R3 (s3.rep (s2.rep r1)) el
   cases ea
   have SX:=fI (s3.rep r2) ek;subst SX;refine⟨kvs,tk kk,hH,rfl,fun u hu=>?_,fun hn=>?_⟩
   ·rcases iz rr.1 rr.2 kk with⟨p4,u',z1,z2,z3⟩|⟨_,z2⟩
    ·rw[hu]at z2;cases z2;rw[z1]at w3;have rd:=dy.drop kk rr;obtain⟨st,R'⟩:=R3.upd (o':=.dct (oB kps kk)) (ho:=.dK (lH kvs (tk kk))) em hF ⟨_,hH⟩ ⟨hF,_,aK,rd.1,rd.2⟩;exact w3 F3 m3 _ _ st R' (st.rep z3)
    ·rw[hu]at z2;cases z2
   ·rcases iz rr.1 rr.2 kk with⟨p4,u',z1,z2,z3⟩|⟨z1,_⟩
    ·rw[hn]at z2;cases z2
    ·rw[z1]at w3;exact w3 F3 m3 _ _ .refl R3 r3
  ·exact w3.elim
 ·rw[if_neg hs]at w1;exact w1.elim
noncomputable def AH(h:List PO)(n:Nat):PV→Option (List (PK×PV))
 |.dct kps=>some kps
 |.ref j=>if j=n then none else match h[j]? with
  |some (.dct kps)=>some kps
  |_=>none
 |_=>none
theorem AG{K:W.Frag}{F H:Hp}{m:List Addr}{h:List PO}{n:Nat}{q:PV}{x:V}{a:Addr}{more:List (PK×PV)}(R:RelH K T F m h H)(em:m[n]? =some a)(hF:F a=none)(r:aL K T F m q x)(e:AH h n q=some more):
  ∃b mv,x=.ref b∧a≠b∧Rd H b (.dK mv)∧dy K T F m more mv:=by
 cases r with
 |dct ef k rr=>simp only[AH,Option.some.injEq]at e;subst e;exact⟨_,_,rfl,(fun z=>by subst z;rw[hF]at ef;cases ef),.inr ⟨_,R.same _ _ ef⟩,k,rr⟩
 |@ref j b ej=>
  have e:(if j=n then none else match h[j]? with|some (.dct xs)=>some xs|_=>none)=some more:=e
  split at e
  ·cases e
  ·rename_i hj
   cases q:h[j]? with
   |none=>rw[q]at e;cases e
   |some o=>
    rw[q]at e
    cases o with
    |dct xs=>
     simp only[Option.some.injEq]at e;subst e;obtain⟨_,vs,e1,k,rr⟩:=R.obj j _ b q ej;refine⟨b,vs,rfl,fun z=>?_,.inl e1,k,rr⟩;subst z
     have hn:n<m.length:=by
      rcases Nat.lt_or_ge n m.length with z|z
      ·exact z
      ·rw[List.getElem?_eq_none z]at em;cases em
     have hj2:j<m.length:=by
      rcases Nat.lt_or_ge j m.length with z|z
      ·exact z
      ·rw[List.getElem?_eq_none z]at ej;cases ej
     rw[List.getElem?_eq_getElem hn,Option.some.injEq]at em;rw[List.getElem?_eq_getElem hj2,Option.some.injEq]at ej;exact hj ((List.getElem_inj R.nd).mp (ej.trans em.symm))
    |lst _=>cases e
    |o9 _=>cases e
 |_=>cases e
def rR(p q:PV)(h:List PO):Res PV:=match cG h p with
 |some (n,kps)=>match AH h n q with
  |some more=>if kps.length+more.length≤sizeLine then .ok .non (h.set n (.dct (more.foldl (fun acc kv=>kT acc kv.1 kv.2) kps)))else .bad
  |none=>.bad
 |none=>.bad
def pc(fo fe:Ex):Ex:=fun ρ h=>(fo ρ h).bind fun p h1=>if(cG h1 p).isSome=true then(fe ρ h1).bind fun q h2=>rR p q h2 else .bad
theorem dy.len{K:W.Frag}{F:Hp}{m:List Addr}{kps:List (PK×PV)}{kvs:List (Key×V)}(r:dy K T F m kps kvs):kvs.length=kps.length:=by have:=congrArg List.length r.1;simpa using this
theorem FF{apos:Pos}(ho:RE X T Ew o fo)(he:RE X T Ew e fe)(mm:M1 X o "update" apos e pos):RE X T Ew (.Call (.Attribute o "update" apos) [e] [] pos) (pc fo fe):=by with_unfolding_all
 refine PE.imp (Df ho he mm) ?_;rintro σ H Q ⟨F,m,ρ,h,R,p⟩;refine⟨F,m,ρ,h,R,(aG.bind p).mono ?_⟩;rintro x H1 ⟨F1,m1,h1,p1,s1,R1,r1,w1⟩
 by_cases hs:(cG h1 p1).isSome=true
 ·rw[if_pos hs]at w1;obtain⟨⟨n0,k0⟩,e0⟩:=Option.isSome_iff_exists.mp hs;obtain⟨a,Vq,rfl,em0,_,Y7,_⟩:=gx R1 r1 e0;refine⟨a,rfl,.inl ⟨Vq,.inl Y7⟩,F1,m1,ρ,h1,R.of s1 R1,(aG.bind w1).mono ?_⟩;rintro y H2 ⟨F2,m2,h2,p2,s2,R2,r2,w2⟩;unfold rR at w2
  split at w2
  ·rename_i n kps el
   split at w2
   ·rename_i more eo
    split at w2
    ·rename_i hz;obtain⟨a',kvs,ea,em,hF,hH,rr⟩:=gx R2 (s2.rep r1) el
     cases ea
     obtain⟨b,mv,rfl,ne,rd,rm⟩:=AG R2 em hF r2 eo;refine⟨b,kvs,mv,rfl,ne,hH,rd,by rw[rr.len,rm.len];exact hz,?_⟩;have rg:=dy.merge rm rr;obtain⟨st,R'⟩:=R2.upd (o':=.dct (more.foldl (fun acc kv=>kT acc kv.1 kv.2) kps)) (ho:=.dK (cQ kvs mv)) em hF ⟨_,hH⟩ ⟨hF,_,aK,rg.1,rg.2⟩;exact w2 F2 m2 _ _ st R' .non
    ·exact w2.elim
   ·exact w2.elim
  ·exact w2.elim
 ·rw[if_neg hs]at w1;exact w1.elim
end
end L3
namespace L2
open PySem PySem.Spec PyProof.Rows
noncomputable def Xh(n:Nat)(sq:Hp→List V→Prop):It:=
 ⟨fun i H=>∃xs x,sq H xs∧xs.length=n∧xs.reverse[i]? =some x,fun i H x H'=>H'=H∧∀xs,sq H xs→xs.reverse[i]? =some x,fun i H=>∃xs,sq H xs∧xs.length=n∧i=n⟩
theorem uu{α:Type}{xs:List α}{i:Nat}{x:α}(h:xs.reverse[i]? =some x):i<xs.length∧xs[xs.length - 1 - i]? =some x:=by
 have hi:i<xs.length:=by
  rcases Nat.lt_or_ge i xs.length with q|q
  ·exact q
  ·rw[List.getElem?_eq_none (by simpa using q)]at h;cases h
 rw[List.getElem?_reverse hi]at h;exact⟨hi,h⟩
theorem xC{P:Program}{w:World}{K:W.Frag}{tg:Expr}(a it:Addr)(n:Nat):rM P w K tg (Xh n fun H xs=>Mq K H a xs) [it] it (fun i h=>h.IsRevIter it a ((n:Int) - 1 - (i:Int))) where
 mem:=by simp
 obj:=fun i h st b hb=>by
  have e:b=it:=by simpa using hb
  subst e;obtain⟨o,e,c,d⟩:=st;exact⟨o,e,fun v z=>by rw[d]at z;cases z⟩
 keep:=fun i h h' st k=>st.at fun o e=>k it (by simp) o e
 item:=by
  intro X hP hw hK hc i pins s σ H E I hf st hg;subst hP hw hK;obtain⟨xs,x,hq,hn,hx⟩:=hg;obtain⟨hi,Yx⟩:=uu hx;obtain⟨its,rv,p,hz⟩:=I.list hq;obtain⟨u,hu,ru⟩:=rv.get Yx;obtain⟨f0,f1,f2,f3,f4,f5⟩:=hf it (by simp);have e1:(n:Int) - 1 - (i:Int)=((xs.length - 1 - i:Nat):Int):=by omega
  have e2:((xs.length - 1 - i:Nat):Int) - 1=(n:Int) - 1 - ((i+1:Nat):Int):=by omega
  rw[e1]at st;refine wpAny_pyNext_rev_item st p.isList (x:=u) (by simpa using hu) fun h' Qt sb=>?_;rw[e2]at Qt;have I1:Inv X pins σ H { s with heap:=h' }:=I.turned (t':=s.toks) (fun b o hb e=>(sb.2 b hb).trans e) f0 f1 f3 f4 f5;obtain⟨o,e,c,d⟩:=id Qt;exact⟨u,rfl,qd (s:={ s with heap:=h' }) e c d (by decide) ⟨x,H,I1,ru,⟨rfl,fun ys hy=>by rw[I.QJ hy hq];exact hx⟩,Qt,fun b hb=>(hf b hb).1⟩⟩
 done:=by
  intro X hP hw hK hc i pins s σ H E I hf st hg;subst hP hw hK;obtain⟨xs,hq,hn,rfl⟩:=hg;obtain⟨f0,f1,f2,f3,f4,f5⟩:=hf it (by simp);have e1:(i:Int) - 1 - (i:Int)= -1:=by omega
  rw[e1]at st;exact wpAny_pyNext_rev_end (I.ok.hd hc) st fun h' eb=>⟨rfl,I.turned (t':=s.toks) (fun b o hb e=>eb b o hb e) f0 f1 f3 f4 f5⟩
 self:=fun _ _ _ _ _ st h=>wpAny_pyIter_revIter st h
section
variable{X:Cx}{tg:Expr}{p p1:Pos}
def La(K:W.Frag)(ta:TA):TI:=fun σ H R=>ta σ H fun vs H1=>∃a xs,vs= [.ref a]∧Mq K H1 a xs∧R (Xh xs.length fun H ys=>Mq K H a ys) H1
theorem Db{a:Expr}{ta:TA}(hg:Gl X "reversed")(hm:X.mg "reversed"=none)(ha:PA X [a] ta)(hs:starEach [a] X.env= [(false,eval a X.env)]:=by rfl):PI X tg (.Call (.Name "reversed" p) [a] [] p1) (La X.K ta):=by
 intro pins s σ H R I h;refine Call_ (il I hg hm (show bootBuiltins "reversed"=some (.type "reversed") by decide+kernel) (PyProof.Rows.callWith_type1 (B_ (ha p1 pins s σ H _ I h) ?_) hs rfl));rintro us s1 ⟨vs,H1,I1,r1,q1⟩;obtain⟨a,xs,e,hq,q⟩:=q1;subst e
 cases r1 with
 |cons r rr=>
  cases rr
  cases r
  obtain⟨its,rv,t,hz⟩:=I1.list hq;have t:=t.isList;refine call_reversed_list t ?_;have g:(s1.heap.push (revObj a ((its.toArray.size:Int) - 1))).IsRevIter s1.heap.objs.size a ((its.toArray.size:Int) - 1):=⟨_,Heap.get?_push_size _ rfl,rfl,rfl⟩
  have kk:∀b o,s1.heap.get? b=some o→(s1.heap.push (revObj a ((its.toArray.size:Int) - 1))).get? b=some o:=fun b o e=>Heap.get?_push_of_some _ e;refine wpAny_pyIter_revIter (s:={ s1 with heap:=s1.heap.push (revObj a ((its.toArray.size:Int) - 1)) }) g ?_;have hl:=rv.length;refine⟨s1.heap.objs.size,[s1.heap.objs.size],_,_,H1,rfl,I1.kept (t':=s1.toks) kk,xC a s1.heap.objs.size xs.length,?_,fun b hb=>?_,q⟩
  ·have e:(its.toArray.size:Int) - 1=(xs.length:Int) - 1 - ((0:Nat):Int):=by simp;omega
   rw[← e];exact g
  ·have Rt:s1.heap.objs.size≤b:=by rw[List.mem_singleton.mp hb];exact Nat.le_refl _
   exact I1.QV Rt (I1.hok.fresh Rt)
end
theorem zx:Manifest.owners.lookup (String.ofList ['d','e','s','r','e','v','e','r'].reverse)=some Manifest.sig_reversed:=by kernel_rfl
theorem we{m:Str}{id:String}(n:String)(h1:typeLookup (.type "reversed") m=pure (some (.builtin id)))(h2:splitId id=some ("reversed",n))(h3:withoutEnding? id "#opaque"=none)(h4:withoutEnding? id "#data"=none)(h5:(Manifest.find? "reversed").bind (·.attrs.lookup n)=some .slot)(h6:plainId id=true):Slot "reversed" m id:=
 Slot.of (owner:="reversed") (n:=n) h1 h2 h3 h4 (.inl h5) PySem.F.sub_reversed_self h6
theorem kO:Slot "reversed" "__next__" "reversed.__next__":=we "__next__" (by rw[typeLookup_type,builtinLookup_eq_fast];kernel_rfl) (by decide+kernel) (by decide+kernel) (by decide+kernel) (by decide+kernel) (by decide+kernel)
theorem wg:Slot "reversed" "__iter__" "reversed.__iter__":=we "__iter__" (by rw[typeLookup_type,builtinLookup_eq_fast];kernel_rfl) (by decide+kernel) (by decide+kernel) (by decide+kernel) (by decide+kernel) (by decide+kernel)
theorem pE:entryFor table "reversed.__next__"=some Builtin.«reversed.__next__» :=entryFor_of_tree (by kernel_rfl)
theorem xR:entryFor table "reversed.__iter__"=some Builtin.«dict_keyiterator.__iter__» :=entryFor_alias (id':="dict_keyiterator.__iter__") (by kernel_rfl) (by decide+kernel) (by decide+kernel) (by kernel_rfl)
theorem pF(a:Value):argsOk "reversed.__next__" ⟨[a],[]⟩:=by unfold argsOk;rw[signature?_of (id:="reversed.__next__") (n:=['_','_','t','x','e','n','_','_']) (o:=['d','e','s','r','e','v','e','r']) (by kernel_rfl) zx];kernel_rfl
theorem xS(a:Value):argsOk "reversed.__iter__" ⟨[a],[]⟩:=by unfold argsOk;rw[signature?_of (id:="reversed.__iter__") (n:=['_','_','r','e','t','i','_','_']) (o:=['d','e','s','r','e','v','e','r']) (by kernel_rfl) zx];kernel_rfl
theorem Ch:Slot "reversed" "__init__" "object.__init__":=by
 refine Slot.of (owner:="object") (n:="__init__") ?_ (by decide+kernel) (by decide+kernel) (by decide+kernel) (.inl (by decide+kernel)) ?_
 ·rw[typeLookup_type,builtinLookup_eq_fast];kernel_rfl
 ·rw[isSubtype_type];kernel_rfl
theorem xT:TypeCalled "reversed" "reversed.__new__" "object.__init__":=
 ⟨by decide+kernel,PySem.F.create_reversed,⟨_,_,PySem.F.mro_reversed⟩,PySem.F.made_reversed,PySem.F.plain_reversed_new,PySem.F.sub_reversed_self,Ch⟩
noncomputable def Wk(t:Addr)(i:Int):Obj:={ cls:=.type "reversed",data:=.fields #[.ref t,rawInt i] }
def mK(h:Heap)(it t:Addr)(i:Int):Prop:=∃o,h.get? it=some o∧o.cls=.type "reversed"∧o.data=.fields #[.ref t,rawInt i]
theorem xF:typeLookup (.type "tuple") "__reversed__"=pure none:=by rw[typeLookup_type,builtinLookup_eq_fast];kernel_rfl
theorem uh:isSubtype (.type "tuple") (.type "dict")=pure false:=by rw[isSubtype_type];kernel_rfl
section
variable{prog:Program}{w:World}{A:Around}{E:Value→Shared→Prop}{s:Shared}{it t:Addr}{items:Array Value}
theorem Fs(t:Addr)(items:Array Value):MeetsIn prog w (Builtin.«reversed.__new__» ⟨[.type "reversed",.ref t],[]⟩) (fun _ R s=>IsTup s.heap t items∧(items.size:Int)<2 ^ 63∧
   R (.ok (.ret (.ref s.heap.objs.size))) { s with heap:=s.heap.push (Wk t ((items.size:Int) - 1)),toks:=s.toks+1+1 }):=
 .of_wp fun A R s ⟨ht,hz,h⟩=>by
  have ty:=ht.typeIs;unfold Builtin.«reversed.__new__»;refine wpAny_bind (wpAny_of_eq (newClass_reversed _) ?_)
  try dsimp only
  refine wpAny_bind (wpAny_of_eq (a:=()) (by first|rfl|kernel_rfl) ?_);refine wpAny_bind (wpAny_of_eq (a:=()) (by first|rfl|kernel_rfl) ?_)
  try dsimp only
  refine wpAny_bind (wpAny_specialOf ty xF ?_)
  try dsimp only
  refine wpAny_bind ?_;show wpAny _ _ (isInstance (.ref t) (.type "dict") >>= _) _ _ s;refine wpAny_bind (wpAny_isInstance ty uh ?_);show wpAny _ _ (specialOf (.ref t) "__getitem__" >>= _) _ _ s;refine wpAny_bind (wpAny_specialOf ty PySem.F.slot_tuple_getitem.lookup ?_);refine(show wpAny _ _ (pure true) _ _ s from wpAny_pure ?_);show wpAny _ _ (call (.builtin "len") [.ref t] >>= _) _ _ s;refine wpAny_bind (len_tuple ht hz ?_);refine wpAny_bind (wpAny_pure ?_);refine(show wpAny _ _ (newObj (.type "reversed") (.fields #[.ref t,rawInt ((items.size:Int) - 1)]) >>= _) _ _ { s with toks:=s.toks+1+1 }from wpAny_bind (wpAny_newObj_type ?_ (by size_fits)));exact wpAny_pure ⟨_,rfl,h⟩
theorem yL{Q:Value→Shared→Prop}(ht:IsTup s.heap t items)(hz:(items.size:Int)<2 ^ 63)(h:Q (.ref s.heap.objs.size) { s with heap:=s.heap.push (Wk t ((items.size:Int) - 1)),toks:=s.toks+1+1 }):wpAny (model prog w) A (call (.type "reversed") [.ref t]) Q E s:=by refine callType_newIn xT (by decide) (PySem.F.typeCall_reversed_1 _) (PySem.F.newCall_reversed_1 _) (fun obj=>PySem.F.args_object_init_2 obj _) PySem.F.entry_reversed_new (Fs t items) ⟨ht,hz,?_⟩;exact⟨⟨_,Heap.get?_push_size _ rfl,rfl⟩,h⟩
theorem mK.typeIs{i:Int}(x:mK s.heap it t i):s.TypeIs (.ref it) "reversed":=let⟨o,ho,hc,_⟩:=x;⟨o,ho,hc⟩
theorem pZ{i:Int}{Q:Value→Shared→Prop}(x:mK s.heap it t i)(h:Q (.ref it) s):wpAny (model prog w) A (pyIter (.ref it)) Q E s:=by refine wpAny_pyIter_slot x.typeIs wg (wpAny_call_entry wg x.typeIs xR ?_ (xS _));exact(show wpAny _ _ (ret (.ref it)) _ _ s from wpAny_pure ⟨_,rfl,"reversed",_,x.typeIs,kO.lookup,h⟩)
theorem yq{i:Nat}{x:Value}{Q:Option Value→Shared→Prop}(hit:mK s.heap it t (i:Int))(ht:IsTup s.heap t items)(hz:(items.size:Int)<2 ^ 63)(hx:items[i]? =some x)
  (hQ:∀h' tk,mK h' it t ((i:Int) - 1)→Heap.SameBut it s.heap h'→Q (some x) { s with heap:=h',toks:=tk }):wpAny (model prog w) A (pyNext (.ref it)) Q E s:=by
 obtain⟨o,ho,hc,hd⟩:=id hit
 have hi:i<items.size:=by
  rcases Nat.lt_or_ge i items.size with q|q
  ·exact q
  ·rw[Array.getElem?_eq_none q]at hx;cases hx
 unfold pyNext;refine wpAny_bind (wpAny_attempt (wpAny_callSpecial?_slot (name:=Str.ofString "__next__") hit.typeIs kO (wpAny_call_entry kO hit.typeIs pE ?_ (pF _))));unfold Builtin.«reversed.__next__»;refine wpAny_bind (wpAny_of_eq (a:=(Value.ref it,[])) rfl ?_)
 try dsimp only
 refine wpAny_bind (wpAny_field ho hd (x:=.ref t) rfl ?_);refine wpAny_bind (wpAny_field ho hd (x:=rawInt (i:Int)) rfl ?_);show wpAny _ _ (if(i:Int)<0 then _ else _) _ _ s;rw[if_neg (by omega)];refine wpAny_bind (wpAny_specialOf ht.typeIs PySem.F.slot_tuple_getitem.lookup ?_);show wpAny _ _ (mkInt (i:Int) >>= _) _ _ s;refine wpAny_bind (wpAny_mkInt ?_);refine wpAny_bind (wpAny_attempt (getItem_tuple (j:=i) ht (by omega) (by omega) (by simp[seqIndex?];omega) hx ?_));refine(show wpAny _ _ (field (.ref it) 1 >>= _) _ _ { s with toks:=s.toks+1 }from wpAny_bind (wpAny_field ho hd (x:=rawInt (i:Int)) rfl ?_));refine(show wpAny _ _ (setField (.ref it) 1 (rawInt ((i:Int) - 1)) >>= _) _ _ { s with toks:=s.toks+1 }from wpAny_bind (wpAny_setField ho hd (by simp) (wpAny_pure ⟨x,rfl,wpAny_pure (hQ _ _ ⟨_,Heap.get?_update_self _ ho (Obj.isFreed_of_fields (Obj.data_mapFields hd _)),?_,?_⟩ (Heap.SameBut.update ..))⟩)))
 ·rw[Obj.cls_mapFields];exact hc
 ·rw[Obj.data_mapFields hd];simp
theorem Bs{Q:Option Value→Shared→Prop}(hh:A.handled=none)(hit:mK s.heap it t (-1))(hQ:∀h',Heap.ExtBut it s.heap h'→Q none { s with heap:=h' }):wpAny (model prog w) A (pyNext (.ref it)) Q E s:=by
 obtain⟨o,ho,hc,hd⟩:=id hit;unfold pyNext;refine wpAny_bind (wpAny_attempt (wpAny_callSpecial?_slot (name:=Str.ofString "__next__") hit.typeIs kO (wpAny_call_entry kO hit.typeIs pE ?_ (pF _))));unfold Builtin.«reversed.__next__»;refine wpAny_bind (wpAny_of_eq (a:=(Value.ref it,[])) rfl ?_)
 try dsimp only
 refine wpAny_bind (wpAny_field ho hd (x:=.ref t) rfl ?_);refine wpAny_bind (wpAny_field ho hd (x:=rawInt (-1)) rfl ?_);show wpAny _ _ (if(-1:Int)<0 then _ else _) _ _ s;rw[if_pos (by decide)];refine wpAny_bind (wpAny_rule ?_);refine wpAny_bind ?_;refine(show wpAny _ _ (setField (.ref it) 1 (rawInt (-1)) >>= _) _ _ s from wpAny_bind (wpAny_setField ho hd (by simp) ?_));have V7:=Heap.get?_update_self (Obj.mapFields fun x=>x.setIfInBounds 1 (rawInt (-1))) ho (Obj.isFreed_of_fields (Obj.data_mapFields hd _));refine wpAny_setField (s:={ s with heap:=s.heap.update it (Obj.mapFields fun x=>x.setIfInBounds 1 (rawInt (-1))) }) V7 (Obj.data_mapFields hd _) (by simp) ?_;refine wpAny_bind ?_;unfold Builtin.SmallTypes.stopIteration;refine wpAny_bind ?_;simp only[newExc,newTuple];refine wpAny_bind (wpAny_newObj_type (wpAny_bind (m:=firstArgMember _ _) (wpAny_of_eq (a:=Value.none) (by first|rfl|(simp only[firstArgMember];rfl)) (wpAny_newObj_type ?_ (by size_fits)))) (by size_fits));simp only[raiseNew];refine wpAny_bind (wpAny_handled ?_);rw[show A.in1.handled=none from hh];refine wpAny_bind (wpAny_pure (wpAny_throw ?_));refine wpAny_bind (wpAny_isInstance (T:="StopIteration") (b:=true) ⟨_,Heap.get?_push_size _ rfl,rfl⟩ isSubtype_stop ?_);refine wpAny_pure (hQ _ ?_);exact((fun b o hb e=>((Heap.SameBut.update ..).extBut.push _).push _ b o hb ((Heap.SameBut.update ..).extBut b o hb e)))
end
theorem xz{P:Program}{w:World}{K:W.Frag}{tg:Expr}(a it:Addr)(n:Nat):rM P w K tg (Xh n fun H xs=>Nf K H a xs) [it] it (fun i h=>mK h it a ((n:Int) - 1 - (i:Int))) where
 mem:=by simp
 obj:=fun i h st b hb=>by
  have e:b=it:=by simpa using hb
  subst e;obtain⟨o,e,c,d⟩:=st;exact⟨o,e,fun v z=>by rw[d]at z;cases z⟩
 keep:=fun i h h' st k=>let⟨o,e,r⟩:=st;⟨o,k it (by simp) o e,r⟩
 item:=by
  intro X hP hw hK hc i pins s σ H E I hf st hg;subst hP hw hK;obtain⟨xs,x,hq,hn,hx⟩:=hg;obtain⟨hi,Yx⟩:=uu hx;obtain⟨its,rv,p,hz⟩:=I.tuple hq;obtain⟨u,hu,ru⟩:=rv.get Yx;obtain⟨f0,f1,f2,f3,f4,f5⟩:=hf it (by simp);have hl:=rv.length;have e1:(n:Int) - 1 - (i:Int)=((xs.length - 1 - i:Nat):Int):=by omega
  have e2:((xs.length - 1 - i:Nat):Int) - 1=(n:Int) - 1 - ((i+1:Nat):Int):=by omega
  rw[e1]at st;refine yq st p (by rw[sizeLine_eq]at hz;simp;omega) (x:=u) (by simpa using hu) fun h' tk Qt sb=>?_;rw[e2]at Qt;have I1:Inv X pins σ H { s with heap:=h',toks:=tk }:=I.turned (t':=tk) (fun b o hb e=>(sb.2 b hb).trans e) f0 f1 f3 f4 f5;obtain⟨o,e,c,d⟩:=id Qt;exact⟨u,rfl,qd (s:={ s with heap:=h',toks:=tk }) e c d (by decide) ⟨x,H,I1,ru,⟨rfl,fun ys hy=>by rw[I.PN hy hq];exact hx⟩,Qt,fun b hb=>(hf b hb).1⟩⟩
 done:=by
  intro X hP hw hK hc i pins s σ H E I hf st hg;subst hP hw hK;obtain⟨xs,hq,hn,rfl⟩:=hg;obtain⟨f0,f1,f2,f3,f4,f5⟩:=hf it (by simp);have e1:(i:Int) - 1 - (i:Int)= -1:=by omega
  rw[e1]at st;exact Bs (I.ok.hd hc) st fun h' eb=>⟨rfl,I.turned (t':=s.toks) (fun b o hb e=>eb b o hb e) f0 f1 f3 f4 f5⟩
 self:=fun _ _ _ _ _ st h=>pZ st h
section
variable{X:Cx}{tg:Expr}{p p1:Pos}
def KZ(K:W.Frag)(ta:TA):TI:=fun σ H R=>ta σ H fun vs H1=>∃a xs,vs= [.ref a]∧Nf K H1 a xs∧R (Xh xs.length fun H ys=>Nf K H a ys) H1
theorem Da{a:Expr}{ta:TA}(hg:Gl X "reversed")(hm:X.mg "reversed"=none)(ha:PA X [a] ta)(hs:starEach [a] X.env= [(false,eval a X.env)]:=by rfl):PI X tg (.Call (.Name "reversed" p) [a] [] p1) (KZ X.K ta):=by
 intro pins s σ H R I h;refine Call_ (il I hg hm (show bootBuiltins "reversed"=some (.type "reversed") by decide+kernel) (PyProof.Rows.callWith_type1 (B_ (ha p1 pins s σ H _ I h) ?_) hs rfl));rintro us s1 ⟨vs,H1,I1,r1,q1⟩;obtain⟨a,xs,e,hq,q⟩:=q1;subst e
 cases r1 with
 |cons r rr=>
  cases rr
  cases r
  obtain⟨its,rv,t,hz⟩:=I1.tuple hq;have hl:=rv.length;refine yL (items:=its.toArray) t (by rw[sizeLine_eq]at hz;simp;omega) ?_;have g:mK (s1.heap.push (Wk a ((its.toArray.size:Int) - 1))) s1.heap.objs.size a ((its.toArray.size:Int) - 1):=⟨_,Heap.get?_push_size _ rfl,rfl,rfl⟩
  have kk:∀b o,s1.heap.get? b=some o→(s1.heap.push (Wk a ((its.toArray.size:Int) - 1))).get? b=some o:=fun b o e=>Heap.get?_push_of_some _ e;refine pZ (s:={ s1 with heap:=s1.heap.push (Wk a ((its.toArray.size:Int) - 1)),toks:=s1.toks+1+1 }) g ?_;refine⟨s1.heap.objs.size,[s1.heap.objs.size],_,_,H1,rfl,I1.kept (t':=s1.toks+1+1) kk,xz a s1.heap.objs.size xs.length,?_,fun b hb=>?_,q⟩
  ·have e:(its.toArray.size:Int) - 1=(xs.length:Int) - 1 - ((0:Nat):Int):=by simp;omega
   rw[← e];exact g
  ·have Rt:s1.heap.objs.size≤b:=by rw[List.mem_singleton.mp hb];exact Nat.le_refl _
   exact I1.QV Rt (I1.hok.fresh Rt)
end
end L2
namespace L3
open PySem PySem.Spec PyProof.Rows L2
section
variable{K:W.Frag}{T:Tab}{F H:Hp}{m:List Addr}
theorem wW{sq:Hp→List V→Prop}{xs:List PV}{vs:List V}(st:∀F1 H1,cy F F1→cy F1 H1→sq H1 vs)(r:aq K T F m xs vs):rP K T (Xh vs.length sq) xs.reverse F m H:=by
 have at':∀{F1:Hp}{m1:List Addr}{h1:List PO}{H1:Hp},bf F m H F1 m1 H1→RelH K T F1 m1 h1 H1→sq H1 vs:=fun s R=>st _ _ s.fz R.same;refine⟨fun i F1 m1 h1 H1 s R hi=>?_,fun i F1 m1 h1 H1 v H2 s R hi y=>?_,fun F1 m1 h1 H1 s R=>⟨vs,at' s R,rfl,by rw[List.length_reverse,r.length]⟩⟩
 ·rw[List.length_reverse,r.length]at hi;exact⟨vs,_,at' s R,rfl,List.getElem?_eq_getElem (by rw[List.length_reverse];exact hi)⟩
 ·obtain⟨rfl,y⟩:=y;rw[List.length_reverse]at hi;obtain⟨S6,Tv⟩:=uu (y vs (at' s R));have hl:=r.length;have hj:xs.length - 1 - i<xs.length:=by omega
  obtain⟨v',q1,q2⟩:=r.get (List.getElem?_eq_getElem hj);rw[← hl]at Tv;rw[q1]at Tv
  cases Tv
  exact⟨F1,m1,_,.refl,R,by rw[List.getElem?_reverse hi];exact List.getElem?_eq_getElem hj,s.rep q2⟩
end
noncomputable def zI(ps:List PV)(h:List PO):Res (List PV):=match ps with
 |[.tup xs]=>.ok xs.reverse h
 |[.lst xs]=>.ok xs.reverse h
 |_=>.bad
def vQ(f:Ax):Ax:=fun ρ h=>(f ρ h).bind zI
section
variable{X:Cx}{T:Tab}{Ew:VK}{a tg:Expr}{f:Ax}{pos p p1:Pos}
theorem FB(hg:Gl X "reversed")(hm:X.mg "reversed"=none)(ha:RA X T Ew [a] f)(hs:starEach [a] X.env= [(false,eval a X.env)]:=by rfl):RI X T Ew tg (.Call (.Name "reversed" p) [a] [] p1) (vQ f):=by with_unfolding_all
 intro pins s σ H R I ⟨F,m,ρ,h,RR,w⟩
 by_cases ht:∃xs h1,f ρ h=.ok [.tup xs] h1
 ·obtain⟨xs,h1,e⟩:=ht;refine Da hg hm ha hs pins s σ H R I ⟨F,m,ρ,h,RR,?_⟩;unfold vQ at w;rw[e]at w ⊢;intro F1 m1 H1 x s1 R1 r1;have w1:=aG.step s1 (show aG X.K T _ F m H R Ew (.ok xs.reverse h1)from w)
  cases r1 with
  |cons r rr=>
   cases rr
   cases r with
   |tup sq rs=>exact⟨_,_,rfl,R1.same.O9 sq,aG.here w1 R1 fun H=>wW (fun F1 H1 a b=>b.O9 (a.O9 sq)) rs⟩
 ·refine Db hg hm ha hs pins s σ H R I ⟨F,m,ρ,h,RR,?_⟩;unfold vQ at w
  cases e:f ρ h with
  |bad=>rw[e]at w;exact w
  |exc v h1=>rw[e]at w;exact w
  |ok ps h1=>
   rw[e]at w;intro F1 m1 H1 x s1 R1 r1;have w1:=aG.step s1 (show aG X.K T _ F m H R Ew (zI ps h1)from w);unfold zI at w1
   split at w1
   ·exact(ht ⟨_,_,e⟩).elim
   ·cases r1 with
    |cons r rr=>
     cases rr
     cases r with
     |lst sq rs=>have q:Mq X.K F1 _ _:=.inl (.inl sq);exact⟨_,_,rfl,R1.same.seq q,aG.here w1 R1 fun H=>wW (fun F1 H1 a b=>b.seq (a.seq q)) rs⟩
   ·exact w1.elim
end
end L3
namespace L2
open PySem PySem.Spec PyProof.Rows
abbrev nL:Obj:={ cls:=.type "list",data:=.seq #[] }
section
variable{prog:Program}{w:World}{A:Around}{E:Value→Shared→Prop}{s:Shared}{I:Addr}{fp wr:List Addr}{n:Nat}{P:Nat→Value→Prop}{St:Nat→Heap→Prop}
theorem Dz{Q:Value→Shared→Prop}(W:Walks prog w A.in1.in1 I fp wr n P St)(hT:∀t:Shared,St 0 t.heap→t.TypeIs (.ref I) "list_reverseiterator")
    (hint:∀(A:Around)(E:Value→Shared→Prop)(t:Shared)(Q:Bool→Shared→Prop),St 0 t.heap→Q false t→wpAny (model prog w) A (Builtin.List.listLengthHint (.ref I)) Q E t)
     (st:St 0 s.heap) (YT:∀b∈fp,b<s.heap.objs.size) (hI:I∈fp) (hn:n≤sizeLine)
    (hQ:∀h' tk acc c,(∀b o,b∉wr→s.heap.get? b=some o→h'.get? b=some o)→h'.get? s.heap.objs.size=some { cls:=.type "list",dict:=none,data:=.seq acc c,slots:= #[] }→ItemsOf P acc n→Q (.ref s.heap.objs.size) { s with heap:=h',toks:=tk }):
    wpAny (model prog w) A (call (.type "list") [.ref I]) Q E s:=by
  refine callType_codes (Q₁:=fun v t=>v=.ref s.heap.objs.size∧t= { s with heap:=s.heap.push nL }) PySem.F.called_list (PySem.F.typeCall_list_1 _) PySem.F.entry_list_init (code_list_new _ ⟨rfl,rfl⟩) ?_
  rintro v t ⟨rfl,rfl⟩
  have e0:(s.heap.push nL).get? s.heap.objs.size=some nL:=Heap.get?_push_size _ rfl;refine⟨⟨nL,e0,rfl⟩,PySem.F.args_list_init_2 _ _,?_⟩;have nI:I≠s.heap.objs.size:=Nat.ne_of_lt (YT I hI);have nw:∀b∈wr,b≠s.heap.objs.size:=fun b hb=>Nat.ne_of_lt (YT b (W.sub b hb));have k1:∀b o,s.heap.get? b=some o→((s.heap.push nL).update s.heap.objs.size (Obj.mapSeq fun _=> #[])).get? b=some o:=fun b o e=>(Heap.get?_update_other _ _ (Nat.ne_of_gt (Heap.lt_size e))).trans (Heap.get?_push_of_some _ e);have d1:=Heap.get?_update_self (Obj.mapSeq fun _=> #[]) e0 rfl
  have body:∀h1:Heap,(∀b o,s.heap.get? b=some o→h1.get? b=some o)→h1.get? s.heap.objs.size=some (Obj.mapSeq (fun _=> #[]) nL)→∀R:Result→Shared→Prop,(∀h' tk,Q (.ref s.heap.objs.size) { s with heap:=h',toks:=tk }→R (.ok (.ret .none)) { s with heap:=h',toks:=tk })→wpAny (model prog w) A.in1.in1 (Builtin.List.listExtendWith (.ref s.heap.objs.size) (.ref I) .none) (fun fin s'=>match fin with|.done f=>R (.ok f) s'|.again c'=>c'.quiet=true∧codeAny (model prog w) A.in1 c' R s') (fun e s'=>R (.error e) s') { s with heap:=h1 }:=fun h1 k1 d1 R hR=>by
    have V0:St 0 h1:=W.frame 0 _ _ st fun b _ o e=>k1 b o e;unfold Builtin.List.listExtendWith;refine wpAny_bind (wpAny_typeOf (hT { s with heap:=h1 } V0) ?_);refine wpAny_ite_false (by simp[Builtin.List.listSameRef,nI.symm]) (wpAny_bind (W.self 0 { s with heap:=h1 } _ _ V0 ?_));refine wpAny_bind (wpAny_holding (hint _ _ { s with heap:=h1 } _ V0 ?_));refine wpAny_ite_false (by decide+kernel) (wpAny_pure ⟨plainId_quiet PySem.F.plain_extend_loop _,?_⟩);refine codeAny_extend_loopS (A:=A.in1) W.toS hn s.heap.objs.size (fun z=>Nat.lt_irrefl _ (YT _ z)) .none n 0 { s with heap:=h1 } #[] _ rfl (Nat.zero_le _) V0 d1 (ItemsOf.nil P) fun t acc c m e ok=>?_;obtain⟨th,tg,td,tt,tO⟩:=t;have g1:=m.gens;have g2:=m.drawn;have g3:=m.os;simp only at g1 g2 g3;subst g1 g2 g3
    exact hR th tt (hQ th tt acc c (fun b o nb eb=>m.heap b o (fun z=>by
      rcases List.mem_cons.mp z with q|q
      · exact absurd (Heap.lt_size eb) (by rw[q];exact Nat.lt_irrefl _)
      · exact nb q) (k1 b o eb)) e ok)
  unfold Builtin.«list.__init__»
  iterate 11 wp_step
  exact wpAny_updateSeq e0 rfl (wpAny_bind (wpAny_letGo (body _ k1 d1 _ fun h' tk q=>⟨rfl,q⟩)))
end
theorem yy:typeLookup (.type "list_reverseiterator") "__len__"=pure none:=by rw[typeLookup_type,builtinLookup_eq_fast];kernel_rfl
theorem AS:typeLookup (.type "list_reverseiterator") "__length_hint__"=pure (some (.builtin "list_reverseiterator.__length_hint__")):=by rw[typeLookup_type,builtinLookup_eq_fast];kernel_rfl
theorem yx:splitId "list_reverseiterator.__length_hint__"=some ("list_reverseiterator","__length_hint__"):=by decide+kernel
theorem AR:isSubtype (.type "list_reverseiterator") (.type "list_reverseiterator")=pure true:=by rw[isSubtype_type];kernel_rfl
section
variable{prog:Program}{w:World}{A:Around}{E:Value→Shared→Prop}{s:Shared}{r:Addr}
theorem Bf{Q:Bool→Shared→Prop}(hT:s.TypeIs (.ref r) "list_reverseiterator")(h:Q false s):wpAny (model prog w) A (Builtin.List.listLengthHint (.ref r)) Q E s:=by unfold Builtin.List.listLengthHint;refine wpAny_bind (wpAny_specialOf hT yy ?_);refine(show wpAny _ _ (specialOf (.ref r) (Str.ofString "__length_hint__") >>= _) _ _ s from wpAny_bind (wpAny_specialOf hT AS ?_));simp only[yx];refine wpAny_bind (wpAny_isInstance (b:=true) hT AR ?_);refine wpAny_ite_split (fun z=>absurd z (by decide)) fun _=>wpAny_ite_split (fun _=>?_) fun z=>absurd (by decide+kernel) z;exact wpAny_ite_split (fun z=>absurd z (by decide+kernel)) fun _=>wpAny_pure h
theorem rE{l:Addr}{items:Array Value}{Q:Value→Shared→Prop}(hh:A.handled=none)(hit:s.heap.IsRevIter r l ((items.size:Int) - 1))(hl:s.heap.IsList l items)(hn:items.size≤sizeLine)(ne:l≠r)
  (hQ:∀h' tk acc c,(∀b o,b≠r→s.heap.get? b=some o→h'.get? b=some o)→h'.get? s.heap.objs.size=some { cls:=.type "list",dict:=none,data:=.seq acc c,slots:= #[] }→ItemsOf (fun i v=>items[items.size - 1 - i]? =some v) acc items.size→Q (.ref s.heap.objs.size) { s with heap:=h',toks:=tk }):
  wpAny (model prog w) A (call (.type "list") [.ref r]) Q E s:=by
 have lr:r<s.heap.objs.size:=by obtain⟨o,ho,_⟩:=hit;exact Heap.lt_size ho
 have ll:l<s.heap.objs.size:=by obtain⟨o,ho,_⟩:=hl;exact Heap.lt_size ho
 have e:(items.size:Int) - 1 - ((0:Nat):Int)=(items.size:Int) - 1:=by omega
 refine Dz (Walks.listRev (A:=A.in1.in1) hh r l ne items) (fun t st=>st.2.1.typeIs) (fun A E t Q st q=>Bf st.2.1.typeIs q) ⟨Nat.zero_le _,by rw[e];exact hit,hl⟩ (fun b hb=>?_) (by simp) hn fun h' tk acc c k e ok=>hQ h' tk acc c (fun b o nb eb=>k b o (by simpa using nb) eb) e ok;rcases List.mem_cons.mp hb with q|q
 ·rw[q];exact lr
 ·rw[List.mem_singleton.mp q];exact ll
end
theorem aR.cat:∀{a:List V}{b:List Value}{c:List V}{d:List Value},aR a b→aR c d→aR (a++c) (b++d)
 |_,_,_,_,.nil,h=>h
 |_,_,_,_,.cons r t,h=>.cons r (aR.cat t h)
theorem aR.rev:∀{a:List V}{b:List Value},aR a b→aR a.reverse b.reverse
 |_,_,.nil=>.nil
 |_,_,.cons r t=>by rw[List.reverse_cons,List.reverse_cons];exact aR.cat (aR.rev t) (.cons r .nil)
section
variable{X:Cx}{a:Expr}{ta:TA}{p p0 p1 p2:Pos}
def Ib(K:W.Frag)(ta:TA):TE:=fun σ H Q=>ta σ H fun vs H1=>∃b xs,vs= [.ref b]∧Mq K H1 b xs∧∀l,H1 l=none→Q (.ref l) (upd H1 l (.lst xs.reverse))
theorem uF(hc:X.calm=true)(hl:Gl X "list")(ml:X.mg "list"=none)(hg:Gl X "reversed")(hm:X.mg "reversed"=none)(ha:PA X [a] ta)(hs:starEach [a] X.env= [(false,eval a X.env)]:=by rfl)
  (he:starEach [.Call (.Name "reversed" p) [a] [] p1] X.env= [(false,eval (.Call (.Name "reversed" p) [a] [] p1) X.env)]:=by rfl):
  PE X (.Call (.Name "list" p0) [.Call (.Name "reversed" p) [a] [] p1] [] p2) (Ib X.K ta):=by
 intro pins s σ H Q I h;refine wpAny_Call_Name_kw (il I hl ml (show bootBuiltins "list"=some (.type "list") by decide+kernel) ?_ (by decide) (by decide));refine PyProof.Rows.callWith_type1 ?_ he rfl;rw[he];refine(show wpAny _ _ (spliced ((false,eval (.Call (.Name "reversed" p) [a] [] p1) X.env)::[])) _ _ s from Calls.spliced_cons ?_);refine wpAny_Call_Name_kw (il I hg hm (show bootBuiltins "reversed"=some (.type "reversed") by decide+kernel) ?_ (by decide) (by decide));refine PyProof.Rows.callWith_type1 (B_ (ha p1 pins s σ H _ I h) ?_) hs rfl;rintro us s1 ⟨vs,H1,I1,r1,q1⟩;obtain⟨b,xs,e,hq,q⟩:=q1;subst e
 cases r1 with
 |cons r rr=>
  cases rr
  cases r
  obtain⟨its,rv,t,hz⟩:=I1.list hq;have t:=t.isList;have E_:=rv.length;refine call_reversed_list t (Calls.spliced_nil ?_);have g:(s1.heap.push (revObj b ((its.toArray.size:Int) - 1))).IsRevIter s1.heap.objs.size b ((its.toArray.size:Int) - 1):=⟨_,Heap.get?_push_size _ rfl,rfl,rfl⟩
  have kk:∀c o,s1.heap.get? c=some o→(s1.heap.push (revObj b ((its.toArray.size:Int) - 1))).get? c=some o:=fun c o e=>Heap.get?_push_of_some _ e;have lb:b<s1.heap.objs.size:=by obtain⟨o,ho,_⟩:=t;exact Heap.lt_size ho
  have I2:Inv X pins σ H1 { s1 with heap:=s1.heap.push (revObj b ((its.toArray.size:Int) - 1)),toks:=s1.toks }:=I1.kept (t':=s1.toks) kk;have fp:jU X pins H1 s1.heap.objs.size:=I1.QV (Nat.le_refl _) (I1.hok.fresh (Nat.le_refl _));refine rE (s:={ s1 with heap:=s1.heap.push (revObj b ((its.toArray.size:Int) - 1)) }) (items:=its.toArray) (I.ok.hd hc) g (t.at fun o e=>kk _ o e) (by simp;omega) (Nat.ne_of_lt lb) fun h' tk Sg c' hk hS S5=>?_
  have el:Sg.toList=its.reverse:=by
   refine List.ext_getElem? fun j=>?_
   by_cases hj:j<its.length
   ·have U8:j<Sg.size:=by rw[S5.1];simpa using hj
    have e:=S5.2 j Sg[j] (Array.getElem?_eq_getElem U8);rw[List.getElem?_reverse hj];simp only[List.size_toArray,List.getElem?_toArray]at e;rw[e];simp[U8]
   ·have U8:¬ j<Sg.size:=by rw[S5.1];simpa using hj
    rw[List.getElem?_eq_none (by simpa using U8),List.getElem?_eq_none (by simpa using hj)]
  have new:bN X.prog X.w (upd H1 (s1.heap.push (revObj b ((its.toArray.size:Int) - 1))).objs.size (.lst xs.reverse)) h' (s1.heap.push (revObj b ((its.toArray.size:Int) - 1))).objs.size (.lst xs.reverse):=⟨by rw[List.length_reverse];exact hz,Sg.toList,c',by rw[el];exact rv.rev,by simpa using hS⟩
  exact⟨.ref _,_,I2.RM (c:=s1.heap.objs.size) (d:=s1.heap.objs.size) (t':=tk) (fun c o h1 _ e=>hk c o h1 e) fp fp (Nat.le_refl _) new,rfl,q _ (I2.hok.fresh (Nat.le_refl _))⟩
end
end L2
namespace L3
open PySem PySem.Spec PyProof.Rows L2
theorem aq.rev{K:W.Frag}{T:Tab}{F:Hp}{m:List Addr}:∀{ps:List PV}{vs:List V},aq K T F m ps vs→aq K T F m ps.reverse vs.reverse
 |[],_,.nil=>.nil
 |_::_,_,.cons r t=>by rw[List.reverse_cons,List.reverse_cons];exact(aq.rev t).append (.cons r .nil)
def wL(ps:List PV)(h:List PO):Res PV:=match ps with
 |[p]=>match RJ h p with
  |some xs=>.ok (.lst xs.reverse) h
  |none=>.bad
 |_=>.bad
def Bz(f:Ax):Ex:=fun ρ h=>(f ρ h).bind wL
section
variable{X:Cx}{T:Tab}{Ew:VK}{a:Expr}{f:Ax}{p p0 p1 p2:Pos}
theorem uw(hc:X.calm=true)(hl:Gl X "list")(ml:X.mg "list"=none)(hg:Gl X "reversed")(hm:X.mg "reversed"=none)(ha:RA X T Ew [a] f)(hs:starEach [a] X.env= [(false,eval a X.env)]:=by rfl)
  (he:starEach [.Call (.Name "reversed" p) [a] [] p1] X.env= [(false,eval (.Call (.Name "reversed" p) [a] [] p1) X.env)]:=by rfl):
  RE X T Ew (.Call (.Name "list" p0) [.Call (.Name "reversed" p) [a] [] p1] [] p2) (Bz f):=by with_unfolding_all
 refine PE.imp (uF hc hl ml hg hm ha hs he) ?_;rintro σ H Q ⟨F,m,ρ,h,R,p⟩;refine⟨F,m,ρ,h,R,(aG.bind p).mono ?_⟩;rintro x H1 ⟨F1,m1,h1,ps,s1,R1,r1,w1⟩
 unfold wL at w1
 split at w1
 ·obtain⟨y,rfl,ry⟩:=r1.one
  split at w1
  ·rename_i xs e;obtain⟨b,vs,rfl,hb,rr⟩:=iW R1 ry e;refine⟨b,vs,rfl,.inl (.inl hb),fun l nl=>?_⟩;obtain⟨s2,R2⟩:=bf.lay (o:=.lst vs.reverse) R1 nl;exact w1 _ m1 _ _ s2 R2 (.lst aK (s2.reps rr.rev))
  ·exact w1.elim
 ·exact w1.elim
end
end L3
namespace L2
open PySem PySem.Spec PyProof.Rows
theorem kJ:plainId "dict.update.loop"=true:=by decide+kernel
theorem rT:entryFor table "dict.update.loop"=some Builtin.«dict.update.loop» :=entryFor_of_tree (by kernel_rfl)
section
variable{prog:Program}{w:World}{κ:Type} [DecidableEq κ] {knd:KeyKind prog w κ} {A:Around} {R:Result→Shared→Prop} {E:Value→Shared→Prop}
inductive Wd(knd:KeyKind prog w κ)(h:Heap):List Value→List (κ×Value)→Prop where
 |nil:Wd knd h [] []
 |cons {a:Addr} {k' v:Value} {k:κ} {us:List Value} {kvs:List (κ×Value)} (t:IsTup h a #[k',v]) (kk:knd.is k k'=true) (r:Wd knd h us kvs):Wd knd h (.ref a::us) ((k,v)::kvs)
theorem xy{s:Shared}{a:Addr}{x y:Value}{Q:List Value→Shared→Prop}(t:IsTup s.heap a #[x,y])(q:Q [x,y] s):wpAny (model prog w) A (Builtin.Dict.pairItems (.ref a)) Q E s:=by
 obtain⟨o,ho,hc,n,hd⟩:=t;have ty:s.TypeIs (.ref a) "tuple":=⟨o,ho,hc⟩
 unfold Builtin.Dict.pairItems;refine wpAny_bind (wpAny_typeOf ty ?_)
 wp_walk
 rw[hd];exact wpAny_pure (wpAny_pure q)
theorem uG{h0:Heap}{D I l:Addr}{us:List Value}(hh:A.handled=none)(hD:h0.objs.size≤D)(hI:h0.objs.size≤I)(ne:D≠I)(hl:h0.IsList l us.toArray):
  ∀(rest:List Value)(kvs:List (κ×Value))(i:Nat)(s:Shared)(Uy:List (κ×Value)),us.drop i=rest→Wd knd h0 rest kvs→(∀b o,h0.get? b=some o→s.heap.get? b=some o)→s.heap.IsListIter I l i→s.heap.DictOf knd D Uy→Uy.length+rest.length≤sizeLine→
   (∀h' tk,(∀b o,h0.get? b=some o→h'.get? b=some o)→h'.DictOf knd D (merged Uy kvs)→R (.ok (.ret .none)) { s with heap:=h',toks:=tk })→
   codeAny (model prog w) A (.builtin "dict.update.loop" ⟨[.ref D,.ref I,rawInt i,.none],[]⟩) R s:=by
 have nI:∀b o,h0.get? b=some o→b≠I:=fun b o q z=>Nat.lt_irrefl _ (Nat.lt_of_lt_of_le (Heap.lt_size q) (z▸hI));have nD:∀b o,h0.get? b=some o→b≠D:=fun b o q z=>Nat.lt_irrefl _ (Nat.lt_of_lt_of_le (Heap.lt_size q) (z▸hD));intro rest
 induction rest with
 |nil=>
  intro kvs i s Uy e p kp it d z hR
  cases p
  refine codeAny_builtin rT ?_;rw[Around.under_plainId kJ _];unfold Builtin.«dict.update.loop»;dsimp only;refine wpAny_bind (wpAny_pyNext_list_end hh it (hl.at fun o q=>kp _ o q) ?_ fun h' x=>?_)
  ·rw[List.getElem?_toArray];have:=congrArg List.length e;rw[List.length_drop]at this;exact List.getElem?_eq_none (by simp at this;omega)
  ·have kd:∀b o,h0.get? b=some o→h'.get? b=some o:=fun b o q=>x b o (nI b o q) (kp b o q);exact wpAny_bind (wpAny_pure (wpAny_pure (hR h' s.toks kd (d.extBut x ne))))
 |cons u rest ih=>
  intro kvs i s Uy e p kp it d z hR
  cases p with
  |@cons a k' v k _ kvs t kk r=>
   refine codeAny_builtin rT ?_;rw[Around.under_plainId kJ _];unfold Builtin.«dict.update.loop»;dsimp only;refine wpAny_bind (wpAny_pyNext_list_item it (hl.at fun o q=>kp _ o q) (x:=.ref a) ?_ fun h' it' sb=>?_)
   ·rw[List.getElem?_toArray,← List.head?_drop,e];rfl
   ·have k1:∀b o,h0.get? b=some o→h'.get? b=some o:=fun b o q=>(sb.2 b (nI b o q)).trans (kp b o q);refine wpAny_bind (wpAny_holding (wpAny_bind (wpAny_tryCatch (xy (t.keeps k1) ?_))));rw[List.length_cons]at z;refine wpAny_holding (wpAny_dictSet_pairs (hsz:=by omega) kk (d.sameBut sb ne) fun h2 d2 s2=>?_);have k2:∀b o,h0.get? b=some o→h2.get? b=some o:=fun b o q=>(s2.2 b (nD b o q)).trans (k1 b o q);refine wpAny_pure ⟨plainId_quiet kJ _,?_⟩
    have ln:(stored Uy k v).length≤Uy.length+1:=by have:=merged_length_le Uy [(k,v)];exact this
    have e':us.drop (i+1)=rest:=by rw[← List.drop_drop,e];rfl
    exact ih kvs (i+1) _ (stored Uy k v) e' r k2 (it'.at fun o q=>(s2.2 I ne.symm).trans q) d2 (by omega) fun h3 tk k3 d3=>hR h3 tk k3 d3
theorem uW:typeLookup (.type "list") "keys"=pure none:=by rw[typeLookup_type,builtinLookup_eq_fast];kernel_rfl
theorem yv{s:Shared}{l:Addr}{xs:Array Value}{c:Nat}{sl:Array (Option Value)}{u:Tok}(hh:A.handled=none)(hl:s.heap.get? l=some { cls:=.type "list",dict:=none,data:=.seq xs c,slots:=sl })
  (h:∀h' tk e,Heap.NewAttrErr s.heap h' e (.ref l) "keys"→R (.error (.ref e)) { s with heap:=h',toks:=tk }):codeAny (model prog w) A (.call (.builtin "list.__getattribute__") ⟨[.ref l,.str "keys" u],[]⟩) R s:=
 codeAny_call_builtin PySem.F.slot_list_getattribute.plain am_entry_list_getattribute (PySem.F.slot_list_getattribute.check _ _ _ _ _ _ _ _ ⟨_,hl,rfl⟩ (PySem.F.args_list_getattribute_2 _ _) (meets_getattribute_miss_list l xs c sl "keys" u uW (by decide+kernel) (by size_fits) prog w A R s ⟨hl,hh,h⟩))
theorem Dr{s:Shared}{l:Addr}{o:Obj}{xs:Array Value}{c:Nat}{Q:Option Value→Shared→Prop}(hh:A.handled=none)(hl:s.heap.get? l=some o)(hc:o.cls=.type "list")(hd:o.data=.seq xs c)(hn:o.dict=none)
  (hQ:∀h' tk,(∀b o,s.heap.get? b=some o→h'.get? b=some o)→Q none { s with heap:=h',toks:=tk }):wpAny (model prog w) A (getAttr? (.ref l) "keys") Q E s:=by
 obtain⟨c0,dct,X3,sl⟩:=o;simp only at hc hd hn;subst hc hd hn;obtain⟨hp,g,d,tk,os⟩:=s;have ty:∀tk',(⟨hp,g,d,tk',os⟩:Shared).TypeIs (.ref l) "list":=fun _=>⟨_,hl,rfl⟩
 have t1:=ty (tk+1);have f1:=sub_AttributeError;have f3:=PySem.F.slot_list_getattribute.lookup;have f4:=PySem.F.slot_list_getattribute.bind (.ref l);have f5:=am_list_getattr_none;unfold getAttr? getAttrBy? getAttrBy getAttrByItsOwn
 wp_walk
 refine yv hh hl fun h2 t2 e x=>?_;obtain⟨t3,u3,he⟩:=x.there;dsimp only;unfold getattributeRaised
 wp_walk
 exact hQ h2 t2 x.keeps
theorem vE{s:Shared}{l:Addr}{o:Obj}{us:List Value}{c:Nat}{kvs:List (κ×Value)}{Q:Value→Shared→Prop}(hh:A.handled=none)(hl:s.heap.get? l=some o)(hc:o.cls=.type "list")(hd:o.data=.seq us.toArray c)(hn:o.dict=none)(p:Wd knd s.heap us kvs)(hz:us.length≤sizeLine)
  (hQ:∀h' tk,(∀b o,s.heap.get? b=some o→h'.get? b=some o)→h'.DictOf knd s.heap.objs.size (merged [] kvs)→Q (.ref s.heap.objs.size) { s with heap:=h',toks:=tk }):
  wpAny (model prog w) A (call (.type "dict") [.ref l]) Q E s:=by
 refine callType_codes (Q₁:=fun v t=>v=.ref s.heap.objs.size∧t= { s with heap:=s.heap.push { cls:=.type "dict",data:=.dict #[] } }) PySem.F.kt_called_dict (PySem.F.kt_typeCall_dict_1 _) PySem.F.entry_dict_init (kt_code_dict_new _ ⟨rfl,rfl⟩) ?_
 rintro v t ⟨rfl,rfl⟩
 have new:(s.heap.push { cls:=.type "dict",data:=.dict #[] }).DictOf knd s.heap.objs.size []:=Heap.DictOf.new s.heap;refine⟨new.typeIs,PySem.F.args_dict_init_2 _ _,?_⟩;have kp:∀b q,s.heap.get? b=some q→(s.heap.push { cls:=.type "dict",data:=.dict #[] }).get? b=some q:=fun b q e=>Heap.get?_push_of_some _ e;have ty:({ s with heap:=s.heap.push { cls:=.type "dict",data:=.dict #[] } }:Shared).TypeIs (.ref l) "list":=⟨o,kp _ _ hl,hc⟩
 unfold Builtin.«dict.__init__» Builtin.Dict.selfAndRest;refine wpAny_bind (wpAny_bind (wpAny_notOrdered_dict new.typeIs ?_));dsimp only;refine wpAny_bind (wpAny_pure (wpAny_pure ?_));unfold Builtin.Dict.updateCommon Builtin.Dict.updateFrom;dsimp only;refine wpAny_bind (wpAny_typeOf ty ?_);refine wpAny_ite_true (by decide) (wpAny_bind (Dr (A:=A.in1.in1) hh (kp _ _ hl) hc hd hn fun h1 t1 k1=>?_));refine wpAny_ite_true rfl (wpAny_bind (wpAny_rule ?_));have k2:∀b q,s.heap.get? b=some q→h1.get? b=some q:=fun b q e=>k1 b q (kp b q e);have l1:h1.IsList l us.toArray:=⟨o,k2 _ _ hl,hc,c,hd⟩
 have Wx:h1.DictOf knd s.heap.objs.size []:=by obtain⟨q,es,ep,hq,rest⟩:=new;exact⟨q,es,ep,k1 _ _ hq,rest⟩
 have lt:s.heap.objs.size<h1.objs.size:=by obtain⟨q,es,ep,hq,rest⟩:=Wx;exact Heap.lt_size hq
 refine wpAny_bind (wpAny_pyIter_list (s:={ s with heap:=h1,toks:=t1 }) l1 ?_);refine wpAny_pure ⟨plainId_quiet kJ _,?_⟩;refine uG (A:=A.in1) (h0:=s.heap) (I:=h1.objs.size) hh (Nat.le_refl _) (Nat.le_of_lt lt) (Nat.ne_of_lt lt) ⟨o,hl,hc,c,hd⟩ us kvs 0 _ [] rfl p (fun b q e=>Heap.get?_push_of_some _ (k2 b q e)) ⟨_,Heap.get?_push_size _ rfl,rfl,rfl⟩ (Wx.push _) (by simpa using hz) fun h3 t3 k3 d3=>?_;exact⟨rfl,hQ h3 t3 k3 d3⟩
end
inductive rN(K:W.Frag)(H:Hp):List V→List (Key×V)→Prop where
 |nil:rN K H [] []
 |cons {a:Addr} {k:Key} {x:V} {vs:List V} {kvs:List (Key×V)} (t:Nf K H a [kV k,x]) (r:rN K H vs kvs):rN K H (.ref a::vs) ((k,x)::kvs)
section
variable{X:Cx}
theorem rN.prs{pins:List (Addr×Obj)}{σ:St}{H:Hp}{s:Shared}(I:Inv X pins σ H s):∀{vs:List V}{kvs:List (Key×V)}{us:List Value},rN X.K H vs kvs→aR vs us→∃ms,Wd (aY X.prog X.w) s.heap us ms∧KV kvs ms
 |_,_,_,.nil,g=>by cases g;exact⟨[],.nil,.nil⟩
 |_,_,_,.cons t r,g=>by
  cases g with|cons ra rr=>
  obtain⟨ms,p,q⟩:=rN.prs I r rr
  cases ra
  obtain⟨its,rv,tu,_⟩:=I.tuple t
  cases rv with
  |@cons _ k' _ _ r1 r2=>
   cases r2 with
   |@cons _ v' _ _ r3 r4=>
    cases r4
    exact⟨_,.cons tu (ke r1) p,.cons ⟨rfl,r3⟩ q⟩
theorem vH(hc:X.calm=true):cY X (.type "dict") (fun xs H Q=>∃p vs kvs,xs= [.ref p]∧Mq X.K H p vs∧rN X.K H vs kvs∧∀q,H q=none→Q (.ref q) (upd H q (.dK (cQ [] kvs)))):=by
 intro pins s σ H xs us Q I r h;obtain⟨p,vs,kvs,rfl,hq,pr,q⟩:=h;obtain⟨u,rfl,ru⟩:=r.one
 cases(show u=Value.ref p from ru)
 obtain⟨its,rv,⟨o,n,e,c1,c2,c3⟩,hz⟩:=I.list hq;obtain⟨ms,pm,km⟩:=pr.prs I rv;have hl:=rv.length
 have l2:kvs.length=vs.length:=by
  have:∀{vs:List V}{kvs:List (Key×V)},rN X.K H vs kvs→kvs.length=vs.length:=fun p=>by
   induction p with
   |nil=>rfl
   |cons _ _ ih=>simp[ih]
  exact this pr
 refine vE (knd:=aY X.prog X.w) (I.ok.hd hc) e c1 c3 c2 pm (by omega) fun h' tk k d=>?_;have rk:KV (cQ [] kvs) (merged [] ms):=KV.merge km .nil;have lm:(cQ [] kvs).length≤sizeLine:=Nat.le_trans (fP kvs []) (by simp;omega);exact⟨.ref _,_,I.laid (a:=s.heap.objs.size) (o:=.dK (cQ [] kvs)) (t':=tk) (fun b o e=>k b o e) (Nat.le_refl _) (oE lm (beq_eq_false_iff_ne.mpr (Ne.symm (Nat.ne_of_lt I.big))) rk d),rfl,q _ (I.hok.fresh (Nat.le_refl _))⟩
theorem Bx(hc:X.calm=true):cY X (.builtin "any") (fun xs H Q=>∃(p:Addr)(bs:List Bool),xs= [.ref p]∧Mq X.K H p (bs.map V.bl)∧Q (.bl (bs.any id)) H):=by
 intro pins s σ H xs us Q I r h;obtain⟨p,bs,rfl,hq,q⟩:=h;obtain⟨u,rfl,ru⟩:=r.one
 cases ru
 obtain⟨its,r',pl,hz⟩:=I.list hq;have hl:=pl.isList;have hb:=oM r';have QZ:p<s.heap.objs.size:=by obtain⟨_,e,_⟩:=hl;exact Heap.lt_size e
 refine call_any_walk (wpAny_pyIter_list hl ?_)
 refine⟨s.heap.objs.size,[s.heap.objs.size,p],[s.heap.objs.size],its.toArray.size,_,_,fun i=>(bs[i]?).getD false,rfl,Walks.list (A:=X.A.in1) (I.ok.hd hc) _ p (Nat.ne_of_lt QZ) its.toArray,
  ⟨⟨_,Heap.get?_push_size _ rfl,rfl,rfl⟩,hl.push _⟩,fun i v s' Q' E' hP hQ=>?_,fun h' tk hk=>?_⟩
 ·obtain⟨b,e,rfl⟩:=hb.get i v (by simpa using hP);simp only[e,Option.getD_some]at hQ;exact wpAny_truthy_bool hQ
 ·have e:((List.range its.toArray.size).any fun i=>(bs[i]?).getD false)=bs.any id:=by rw[List.size_toArray,hb.length];exact LSm.range_any bs
  rw[e];exact⟨.bl _,H,I.kept (t':=tk) (LSm.kept_iter hk),rfl,q⟩
theorem vV{vs:List V}{us:List Value}(hl:vs.length=us.length)(h:∀(i:Nat) v u,vs[i]? =some v→us[i]? =some u→aX v u):aR vs us:=by
 induction vs generalizing us with
 |nil=>cases us with
  |nil=>exact .nil
  |cons _ _=>cases hl
 |cons v r ih=>cases us with
  |nil=>cases hl
  |cons u t=>exact .cons (h 0 v u rfl rfl) (ih (by simpa using hl) fun i v' u' e1 e2=>h (i+1) v' u' (by simpa using e1) (by simpa using e2))
theorem ub{x:Str}{acc:Array Value}(ok:ItemsOf (SignAt x) acc x.cps.size):aR (x.cps.toList.map fun c=>V.str ⟨#[c]⟩) acc.toList:=by
 refine vV (by simp[ok.1]) fun i v u e1 e2=>?_;rw[Array.getElem?_toList]at e2;have q:=ok.2 i u e2;rw[List.getElem?_map,Array.getElem?_toList]at e1
 cases z:x.cps[i]? with
 |none=>rw[z]at e1;cases e1
 |some c=>
  rw[z]at e1
  cases e1
  obtain⟨c2,u2,e3,rfl⟩:=q;rw[z]at e3
  cases e3
  exact⟨u2,rfl⟩
theorem xx{P:Program}{w:World}{kvs:List (Key×V)}{vs:List (Key×Value)}{acc:Array Value}(rk:KV kvs vs)(ha:ItemsOf (fun i v=>∃k x,vs[i]? =some (k,x)∧(aY P w).is k v=true) acc vs.length):aR (kvs.map fun kv=>kV kv.1) acc.toList:=by
 have hl:=rk.length;refine vV (by simp[ha.1,hl]) fun i v u e1 e2=>?_;rw[Array.getElem?_toList]at e2;obtain⟨k,x,e3,kk⟩:=ha.2 i u e2;rw[List.getElem?_map]at e1
 cases z:kvs[i]? with
 |none=>rw[z]at e1;cases e1
 |some kv=>
  rw[z]at e1
  cases e1
  obtain⟨k1,v1⟩:=kv;obtain⟨u1,e4⟩:=KV.at rk z;rw[e3]at e4
  cases e4
  exact AY kk
theorem vF(hc:X.calm=true):cY X (.type "list") (fun xs H Q=>(∃x:Str,xs= [.str x]∧x.length≤sizeLine∧∀p,H p=none→Q (.ref p) (upd H p (.lst (x.cps.toList.map fun c=>V.str ⟨#[c]⟩))))∨(∃d kvs,xs= [.ref d]∧Rd H d (.dK kvs)∧∀p,H p=none→Q (.ref p) (upd H p (.lst (kvs.map fun kv=>kV kv.1))))):=by
 intro pins s σ H xs us Q I r h;rcases h with⟨x,rfl,hz,q⟩|⟨d,kvs,rfl,rd,q⟩
 ·obtain⟨u,rfl,ru⟩:=r.one;obtain⟨t,rfl⟩:=ru;refine call_list_str (I.ok.hd hc) x t (hn:=hz) fun h' tk acc c k e ok=>?_;have vs:aR (x.cps.toList.map fun c=>V.str ⟨#[c]⟩) acc.toList:=ub ok;exact⟨.ref _,_,I.laid (a:=s.heap.objs.size) (o:=.lst (x.cps.toList.map fun c=>V.str ⟨#[c]⟩)) (t':=tk) (fun b o e=>k b o e) (Nat.le_refl _) ⟨by rw[List.length_map];exact hz,acc.toList,c,vs,by simpa using e⟩,rfl,q _ (I.hok.fresh (Nat.le_refl _))⟩
 ·obtain⟨u,rfl,ru⟩:=r.one
  cases(show u=Value.ref d from ru)
  obtain⟨hz,sm,vs,rk,dd⟩:=gP I.hok rd;obtain⟨ep,da⟩:=dd.dictAt;refine W.kdl_call (W.kdl_dict (knd:=aY X.prog X.w) (kvs:=vs) (ep:=ep) sm) (I.ok.hd hc) da (by rw[← rk.length];exact hz) fun h' tk Sg c' hk hl ha=>?_;have ve:aR (kvs.map fun kv=>kV kv.1) Sg.toList:=xx rk ha;exact⟨.ref _,_,I.laid (a:=s.heap.objs.size) (o:=.lst (kvs.map fun kv=>kV kv.1)) (t':=tk) hk (Nat.le_refl _) ⟨by rw[List.length_map];exact hz,Sg.toList,c',ve,by simpa using hl⟩,rfl,q _ (I.hok.fresh (Nat.le_refl _))⟩
end
end L2
namespace L3
open PySem PySem.Spec PyProof.Rows L2
section
variable{X:Cx}{T:Tab}{Ew:VK}{e:Expr}{es:List Expr}{f:Ax}{pos p0:Pos}
def Dk(ps:List PV)(h:List PO):Res PV:=match ps with
 |[p]=>match Q9 h p with
  |some xs=>match dM xs with
   |some bs=>.ok (.bl (bs.any id)) h
   |none=>.bad
  |none=>.bad
 |_=>.bad
theorem FX(hg:Gl X "any")(hm:X.mg "any"=none)(ha:RA X T Ew (e::es) f)(hc:X.calm=true:=by rfl)
  (he:sE0 X e es:=by rfl) (Mu:sP0 X es pos:=by rfl):
  RE X T Ew (.Call (.Name "any" p0) (e::es) [] pos) (cN Dk f):=by with_unfolding_all exact(
  gH (Bx hc) (by
 intro F m h H xs ps Q Ew R rp w;unfold Dk at w
 split at w
 ·rename_i p;obtain⟨x,rfl,rx⟩:=rp.one
  cases e1:Q9 h p with
  |none=>rw[e1]at w;exact w.elim
  |some ys=>
   rw[e1]at w
   cases e2:dM ys with
   |none=>simp only[e2]at w;exact w.elim
   |some bs=>simp only[e2]at w;obtain⟨a,vs,rfl,ea,ra⟩:=fO R rx e1;have ev:=jL e2 ra;subst ev;exact⟨a,bs,rfl,ea,aS w R (.bl _)⟩
 ·exact w.elim) hg hm (by decide+kernel) ha (by decide) (by decide) he Mu)
def sE:List PV→Option (List (PK×PV))
 |[]=>some []
 |.tup [k,v]::r=>match eS k,sE r with
  |some kk,some l=>some ((kk,v)::l)
  |_,_=>none
 |_=>none
theorem pM{K:W.Frag}{F H:Hp}{m:List Addr}(same:cy F H):∀{ps:List PV}{vs:List V}{l:List (PK×PV)},sE ps=some l→aq K T F m ps vs→∃kvs,rN K H vs kvs∧dy K T F m l kvs:=by
 intro ps vs l e q;cases q with
 |nil=>cases e;exact⟨[],.nil,.nil⟩
 |cons rp rr=>
  unfold sE at e
  split at e
  ·rename_i z;cases z
  ·rename_i k v r' z
   cases z
   split at e
   ·rename_i kk l' ek el
    cases e
    obtain⟨kvs,pr,rk⟩:=pM same el rr
    cases rp with
    |tup sq rs=>
     cases rs with
     |cons r1 r2=>
      cases r2 with
      |cons r3 r4=>
       cases r4
       have hk:=fI r1 ek;subst hk;exact⟨_,.cons (same.O9 sq) pr,by simp only[List.map_cons,rk.1],.cons r3 rk.2⟩
   ·cases e
  ·cases e
def uK(ps:List PV)(h:List PO):Res PV:=match ps with
 |[p]=>match Q9 h p with
  |some xs=>match sE xs with
   |some l=>.ok (.ref h.length) (h++ [.dct (Wz l)])
   |none=>.bad
  |none=>.bad
 |_=>.bad
theorem zO(hc:X.calm=true)(hg:Gl X "dict")(hm:X.mg "dict"=none)(ha:RA X T Ew (e::es) f)
  (he:sE0 X e es:=by rfl) (Mu:sP0 X es pos:=by rfl):
  RE X T Ew (.Call (.Name "dict" p0) (e::es) [] pos) (cN uK f):=by with_unfolding_all exact(
  iF (vH hc) (by
 intro F m h H xs ps Q Ew R rp w;unfold uK at w
 split at w
 ·rename_i p;obtain⟨x,rfl,rx⟩:=rp.one
  cases e1:Q9 h p with
  |none=>rw[e1]at w;exact w.elim
  |some ys=>
   rw[e1]at w
   cases e2:sE ys with
   |none=>simp only[e2]at w;exact w.elim
   |some l=>simp only[e2]at w;obtain⟨a,vs,rfl,ea,ra⟩:=fO R rx e1;obtain⟨kvs,pr,rk⟩:=pM R.same e2 ra;exact⟨a,vs,kvs,rfl,ea,pr,pN w R (dy.merge rk .nil)⟩
 ·exact w.elim) hg hm (by decide+kernel) ha (by decide) (by decide) he Mu)
def jy(ps:List PV)(h:List PO):Res PV:=match ps with
 |[.str l]=>if l.length≤sizeLine then .ok (.lst (l.map fun c=>.str [c])) h else .bad
 |[p]=>match Ru h p with
  |some kps=>.ok (.lst (kps.map fun p=>lD p.1)) h
  |none=>.bad
 |_=>.bad
theorem nH{K:W.Frag}{F:Hp}{m:List Addr}:∀l:List Nat,aq K T F m (l.map fun c=>PV.str [c]) (l.map fun c=>V.str ⟨#[c]⟩)
 |[]=>.nil
 |c::r=>.cons (.str [c]) (nH r)
theorem pH{K:W.Frag}{F:Hp}{m:List Addr}:∀{kps:List (PK×PV)}{kvs:List (Key×V)},kvs.map (·.1)=kps.map (fun p=>tk p.1)→aq K T F m (kps.map fun p=>lD p.1) (kvs.map fun kv=>kV kv.1)
 |[],[],_=>.nil
 |[],_::_,h=>by simp at h
 |_::_,[],h=>by simp at h
 |p::r,q::s,h=>by simp only[List.map_cons,List.cons.injEq]at h;rw[List.map_cons,List.map_cons,h.1];exact .cons (pX _) (pH h.2)
theorem zK(hc:X.calm=true)(hg:Gl X "list")(hm:X.mg "list"=none)(ha:RA X T Ew (e::es) f)
  (he:sE0 X e es:=by rfl) (Mu:sP0 X es pos:=by rfl):
  RE X T Ew (.Call (.Name "list" p0) (e::es) [] pos) (cN jy f):=by with_unfolding_all exact(
  iF (vF hc) (by
 intro F m h H xs ps Q Ew R rp w;unfold jy at w
 split at w
 ·rename_i l
  split at w
  ·rename_i hz;obtain⟨x,rfl,rx⟩:=rp.one
   cases rx
   exact .inl ⟨_,rfl,by rw[fj];exact hz,by rw[EX];exact eR w R (nH l)⟩
  ·exact w.elim
 ·rename_i p _;obtain⟨x,rfl,rx⟩:=rp.one
  split at w
  ·rename_i kps e1;obtain⟨a,kvs,rfl,rd,kk,rr⟩:=ig R rx e1;exact .inr ⟨a,kvs,rfl,rd,eR w R (pH kk)⟩
  ·exact w.elim
 ·exact w.elim) hg hm (by decide+kernel) ha (by decide) (by decide) he Mu)
noncomputable def Vc:List Nat:=[97,98,99,100,101,102,103,104,105,106,107,108,109,110,111,112,113,114,115,116,117,118,119,120,121,122]
def uH(p:PV)(ps:List PV)(h:List PO):Res PV:=match p,ps with
 |.str x,[]=>if x=Vc then .ok (.str (Vc.map fun c=>c - 32)) h else .bad
 |_,_=>.bad
theorem ET:Txt.upper (S Vc)=S (Vc.map fun c=>c - 32):=by kernel_rfl
theorem AQ:VP X "str.upper" (fun x xs H Q=>x=.str (S Vc)∧xs= []∧Q (.str (S (Vc.map fun c=>c - 32))) H):=by
 intro pins s σ H x xs v us Q I rx rv h;obtain⟨rfl,rfl,q⟩:=h;obtain⟨t,rfl⟩:=rx
 cases rv.zero
 exact SC.upper (by rw[ET];kernel_rfl) (by rw[ET];exact⟨.str _,H,I.tok _,⟨_,rfl⟩,q⟩)
theorem uz{K:W.Frag}{T:Tab}:qA K T (fun x xs H Q=>x=.str (S Vc)∧xs= []∧Q (.str (S (Vc.map fun c=>c - 32))) H) uH:=by
 intro F m h H x xs p ps Q Ew R rp rs w;unfold uH at w
 split at w
 ·split at w
  ·rename_i z;subst z
   cases rp
   cases rs
   exact⟨rfl,rfl,aS w R (.str _)⟩
  ·exact w.elim
 ·exact w.elim
theorem pO{ρ:Ev}:∀{fs:List (Ex×Ex)} {h ps h'},eV fs ρ h=.ok ps h'→ps.length=fs.length
 |[],h,ps,h',e=>by cases e;rfl
 |(fa,fb)::r,h,ps,h',e=>by
  simp only[eV]at e
  cases q1:fa ρ h with
  |bad=>rw[q1]at e;cases e
  |exc _ _=>rw[q1]at e;cases e
  |ok x1 h1=>
   rw[q1]at e;simp only[Res.G4]at e
   cases q2:fb ρ h1 with
   |bad=>rw[q2]at e;cases e
   |exc _ _=>rw[q2]at e;cases e
   |ok y1 h2=>
    rw[q2]at e;simp only[Res.G4]at e
    cases q3:eS x1 with
    |none=>rw[q3]at e;cases e
    |some kk=>
     rw[q3]at e;dsimp only at e
     cases q4:eV r ρ h2 with
     |bad=>rw[q4]at e;cases e
     |exc _ _=>rw[q4]at e;cases e
     |ok ps3 h3=>rw[q4]at e;cases e;simp[pO q4]
def mx(fs:List (Ex×Ex)):Ex:=fun ρ h=>(eV fs ρ h).bind fun ps h1=>.ok (.ref h1.length) (h1++ [.dct (Wz ps)])
section
variable{keys:List (Option Expr)}{values:List Expr}{fs:List (Ex×Ex)}
theorem zP(h:VN X T Ew pos keys values fs)(QS:keys.all (·.isSome)=true)(hl:keys.length=values.length)(h0:keys≠ [])(T5:keys.length≤15)(Vt:fs.length=keys.length):RE X T Ew (.Dict keys values pos) (mx fs):=by with_unfolding_all
 refine PE.imp (wC h QS hl h0 T5) ?_;rintro σ H Q ⟨F,m,ρ,hh,R,p⟩ pp hp;have hm:=R.toRelH.fresh hp;unfold mx at p;refine md fs (sy R hp (.dK [])) ?_
 cases q:eV fs ρ hh with
 |bad=>rw[q]at p;exact p
 |exc e1 h1=>
  rw[q]at p;intro F2 m2 H2 x s2 R2 rx;obtain⟨e1,e2,e3,s3,R3⟩:=lJ (u:=.dK []) R.same hp s2 R2 hm
  have hs:upd H2 pp (.dK [])=H2:=by
   funext b
   by_cases hb:b=pp
   ·subst hb;rw[aK,e1]
   ·rw[aj hb]
  rw[hs]at s3 R3;exact p _ m2 H2 x s3 R3 (rx.mono (eQ e2 _) fun _ _ h=>h)
 |ok ps h1=>
  rw[q]at p;intro F2 m2 H2 vs s2 R2 ⟨kvs,ev,rk⟩;obtain⟨e1,e2,e3,_,_⟩:=lJ (u:=.dK (cQ [] kvs)) R.same hp s2 R2 hm;have YQ:kvs.length=ps.length:=by have:=congrArg List.length rk.1;simpa using this
  refine⟨e1,kvs,ev,by rw[YQ,pO q,Vt];exact T5,?_⟩;have rm:dy X.K T F2 m2 (Wz ps) (cQ [] kvs):=dy.merge rk .nil
  have idx:∀(i:Nat)(a:Addr),m2[i]? =some a→(m2++ [pp])[i]? =some a:=fun i a e=>by
   have hi:i<m2.length:=by
    rcases Nat.lt_or_ge i m2.length with z|z
    ·exact z
    ·rw[List.getElem?_eq_none z]at e;cases e
   rw[List.getElem?_append_left hi];exact e
  have ne:∀{b o},H b=some o→b≠pp:=fun e z=>by rw[z,hp]at e;cases e
  have off:∀{a},(upd H pp (.dK [])) a=none→H a=none:=fun{a} e=>by
   have:a≠pp:=fun z=>by rw[z,aK]at e;cases e
   rwa [aj this]at e
  refine p F2 (m2++ [pp]) _ _ ⟨s2.fz,?_,fun b o e n=>?_,fun b o e=>?_,fun i a hi e=>?_,fun a o e=>?_⟩ ⟨fun b o e=>?_,by simp[R2.len],fun i ob a x1 x2=>?_,?_⟩ (.ref (by rw[R2.len];simp))
  ·obtain⟨t,ht⟩:=s2.pre;exact⟨t++ [pp],by rw[ht,List.append_assoc]⟩
  ·rw[aj (ne e)];exact s2.fr b o (by rw[aj (ne e)];exact e) n
  ·obtain⟨o',z⟩:=s2.dom b o (by rw[aj (ne e)];exact e);exact⟨o',by rw[aj (ne e)];exact z⟩
  ·rcases Nat.lt_or_ge i m2.length with z|z
   ·rw[List.getElem?_append_left z]at e;exact off (s2.new i a hi e)
   ·rw[List.getElem?_append_right z]at e
    cases y:i - m2.length with
    |zero=>rw[y]at e;simp at e;rw[← e];exact hp
    |succ n=>rw[y]at e;simp at e
  ·rcases s2.Pz a o e with y|y|y
   ·exact .inl y
   ·exact .inr (.inl (off y))
   ·exact .inr (.inr y)
  ·have:b≠pp:=fun z=>by rw[z,e2]at e;cases e
   rw[aj this];exact R2.same b o e
  ·rcases Nat.lt_or_ge i m2.length with z|z
   ·rw[List.getElem?_append_left (by rw[R2.len];exact z)]at x1;rw[List.getElem?_append_left z]at x2;have na:a≠pp:=fun y=>e3 (by rw[← y];exact List.mem_of_getElem? x2);have q:=R2.obj i ob a x1 x2
    cases ob with
    |lst xs=>obtain⟨f0,ws,y,rr⟩:=q;exact⟨f0,ws,by rw[aj na];exact y,rr.mono (cy.refl _) idx⟩
    |dct xs=>obtain⟨f0,ws,y,kk,rr⟩:=q;exact⟨f0,ws,by rw[aj na];exact y,kk,rr.mono (cy.refl _) idx⟩
    |o9 p'=>obtain⟨r1,r3,o,r4⟩:=q;exact⟨r1.mono (cy.refl _) idx,r3,o,r4⟩
   ·rw[List.getElem?_append_right (by rw[R2.len];exact z),R2.len]at x1;rw[List.getElem?_append_right z]at x2
    cases y:i - m2.length with
    |zero=>rw[y]at x1 x2;simp at x1 x2;subst x1 x2;exact⟨e2,_,aK,rm.1,rm.2.mono (cy.refl _) idx⟩
    |succ n=>rw[y]at x1;simp at x1
  ·rw[List.nodup_append];exact⟨R2.nd,by simp,fun x hx y hy=>by simp at hy;subst hy;intro z;subst z;exact e3 hx⟩
end
def EZ(K:W.Frag)(a:Addr)(ps:List PV):Prop:=∃(o:Obj)(its:Array Value)(n:Nat)(vs:List V),K.lookup a=some o∧o.cls=.type "tuple"∧o.data=.seq its n∧its.size≤sizeLine∧aR vs its.toList∧∀(T:Tab)(F:Hp)(m:List Addr),aq K T F m ps vs
theorem zN{x:Str}{a:Addr}{ps:List PV}(hg:Gl X x)(hm:X.mg x=some (.ref a))(g:EZ X.K a ps)(hd:nD0 x:=by decide):RE X T Ew (.Name x pos) (cK (.tup ps)):=by
 obtain⟨o,its,n,vs,h1,h2,h3,h4,h5,h6⟩:=g
 with_unfolding_all exact(gG (wx (v:=.ref a) hg hm rfl hd) fun F m=>.tup (.inr ⟨o,its,n,h1,h2,h3,h4,h5⟩) (h6 T F m))
end
end L3
noncomputable section
namespace Sv
open PySem PySem.Spec PyProof.Rows L2 L3
noncomputable def top(i:Nat):Stmt:=PySem.Challenge.pw_formsmith_k15_clear_or_not.main.body.getD i (.Pass ⟨0,0,0,0⟩)
noncomputable def jl:List PV:=[.str [],.bl true]
noncomputable def nM:List Nat:=[48,49,50,51,52,53,54,55,56,57,65,66,67,68,69,70,71,72,73,74,75,76,77,78,79,80,81,82,83,84,85,86,87,88,89,90,97,98,99,100,101,102,103,104,105,106,107,108,109,110,111,112,113,114,115,116,117,118,119,120,121,122]
noncomputable def bI:List Nat:=[97,98,99,100,101,102,103,104,105,106,107,108,109,110,111,112,113,114,115,116,117,118,119,120,121,122]
noncomputable def zY:List Nat:=[10,32,33,34,35,36,38,39,40,41,42,43,44,45,46,47,48,49,50,51,52,53,54,55,56,57,58,59,60,61,62,63,64,65,66,67,68,69,70,71,72,73,74,75,76,77,78,79,80,81,82,83,84,85,86,87,88,89,90,91,92,93,94,95,96]
noncomputable def zX:List Nat:=[97,98,99,100,101,102,103,104,105,106,107,108,109,110,111,112,113,114,115,116,117,118,119,120,121,122,123,124,125,126]
noncomputable def aF:List Nat:=[10,32,33,34,35,36,38,39,40,41,42,43,44,45,46,47,48,49,50,51,52,53,54,55,56,57,58,59,60,61,62,63,64,65,66,67,68,69,70,71,72,73,74,75,76,77,78,79,80,81,82,83,84,85,86,87,88,89,90,91,92,93,94,95,96,97,98,99,100,101,102,103,104,105,106,107,108,109,110,111,112,113,114,115,116,117,118,119,120,121,122,123,124,125,126]
set_option genSizeOf false in
inductive Fn where
 |law|u5|M5|q8|J2|unclear|L_|Mj|u_|D_|Mi|K4|j_|z_|K7|j7|Mr|G_|A_|K5|Nx|v5|N7|M6|G9|w6|Pr|m8|K6|u6|J7|o_|begins|j8|n_|j4|i_|k_|o7|q_|J5|v8|p8|signs|G5|h_|f9|d8|g8|j5|c7|d9|g_
abbrev CC:=Fn→List PV→Out
abbrev DD:=Fn→List PV→List PO→Res PV
abbrev NN:=Fn→List PV→Res PV
def lX:Fn→Stmt
 |.law=>top 78
 |.u5=>top 54
 |.M5=>top 67
 |.q8=>top 76
 |.J2=>top 77
 |.unclear=>top 44
 |.L_=>top 68
 |.Mj=>top 57
 |.u_=>top 66
 |.D_=>top 55
 |.Mi=>top 60
 |.K4=>top 61
 |.j_=>top 56
 |.z_=>top 75
 |.K7=>top 73
 |.j7=>top 45
 |.Mr=>top 58
 |.G_=>top 63
 |.A_=>top 65
 |.K5=>top 64
 |.Nx=>top 59
 |.v5=>top 72
 |.N7=>top 74
 |.M6=>top 71
 |.G9=>top 46
 |.w6=>top 49
 |.Pr=>top 62
 |.m8=>top 69
 |.K6=>top 70
 |.u6=>top 47
 |.J7=>top 50
 |.o_=>top 48
 |.begins=>top 39
 |.j8=>top 41
 |.n_=>dI (top 27) 5
 |.j4=>dI (top 28) 5
 |.i_=>dI (top 29) 5
 |.k_=>dI (top 30) 5
 |.o7=>dI (top 31) 5
 |.q_=>top 51
 |.J5=>top 32
 |.v8=>top 52
 |.p8=>top 40
 |.signs=>top 3
 |.G5=>top 33
 |.h_=>dI (top 27) 4
 |.f9=>dI (top 28) 4
 |.d8=>dI (top 29) 4
 |.g8=>dI (top 30) 4
 |.j5=>dI (top 31) 4
 |.c7=>dI (top 26) 2
 |.d9=>dI (top 30) 6
 |.g_=>dI (top 31) 6
noncomputable def uR:Fn→List Str
 |.law=> ["_law_script","_law_more","_law_form_here","_law_names_here","_law_due","_law_word","_law_line","_law_others","_law_turn","_law_found","_law_other","_law_told"]
 |.u5=> ["_law_script","_law_k"]
 |.M5=> ["_law_cells","_law_spot","_law_first_here","_law_tidy","_law_names_here","_law_at","_law_nodes_here","_law_n","_law_k","_law_sides","_law_side_here","_law_path"]
 |.q8=> ["_law_nodes_here","_law_trail","_law_loop_here","_law_at","_law_node","_law_here","_law_inner","_law_ahead","_law_own","_law_about","_law_found"]
 |.J2=> ["_law_nodes_here","_law_n","_law_spot","_law_found","_law_node"]
 |.unclear=> ["form"]
 |.L_=> ["_law_found","_law_due"]
 |.Mj=> ["_law_n","_law_some","_law_word","_law_at","_law_names_here","_law_k","_law_sign"]
 |.u_=> ["_law_cells","_law_spot","_law_at","_law_deep","_law_found","_law_k","_law_n","_law_kind","_law_fits","_law_path","_law_own"]
 |.D_=> ["_law_cells","_law_spot","_law_k","_law_base"]
 |.Mi=> ["_law_names_here"]
 |.K4=> ["_law_nodes_here","_law_found","_law_node"]
 |.j_=> ["_law_some"]
 |.z_=> ["_law_node","_law_after_here","_law_own","_law_some","_law_sides"]
 |.K7=> ["_law_trail","_law_found","_law_nodes_here","_law_at","_law_loop_here","_law_own","_law_is_void"]
 |.j7=> ["nodes","behind","follows","place","node","way"]
 |.Mr=> ["_law_n"]
 |.G_=> ["_law_path","_law_kind","_law_tidy","_law_n","_law_way_here","_law_node","_law_behind"]
 |.A_=> ["_law_cells","_law_spot","_law_at","_law_path","_law_deep","_law_n","_law_mark","_law_sides","_law_choice_here"]
 |.K5=> ["_law_cells","_law_spot","_law_at","_law_path","_law_kind","_law_deep","_law_n","_law_scope_here","_law_names_here","_law_tidy","_law_name","_law_inner","_law_nodes_here","_law_star","_law_close","_law_other","_law_loop_here"]
 |.Nx=> ["_law_path","_law_names_here"]
 |.v5=> ["_law_nodes_here","_law_found","_law_node","_law_own","_law_is_void"]
 |.N7=> ["_law_nodes_here","_law_after_here","_law_found"]
 |.M6=> ["_law_way_here","_law_taken"]
 |.G9=> ["nodes","behind","told","follow","node"]
 |.w6=> ["node","follow","side","nodes","way"]
 |.Pr=> ["_law_kind","_law_n"]
 |.m8=> ["_law_node","_law_some","_law_found"]
 |.K6=> ["_law_way_here","_law_letters","_law_some"]
 |.u6=> ["nodes","follow","first"]
 |.J7=> ["node","follow","ends","yes","no"]
 |.o_=> ["loop","follow","again"]
 |.begins=> ["nodes","first","node","told"]
 |.j8=> ["one","other"]
 |.n_=> ["self"]
 |.j4=> ["self"]
 |.i_=> ["self"]
 |.k_=> ["self"]
 |.o7=> ["self"]
 |.q_=> ["loop","follow","first"]
 |.J5=> ["word"]
 |.v8=> ["one","other"]
 |.p8=> ["node","way","inner","between","yes","no"]
 |.signs=> []
 |.G5=> ["left_out"]
 |.h_=> ["self"]
 |.f9=> ["self"]
 |.d8=> ["self"]
 |.g8=> ["self"]
 |.j5=> ["self"]
 |.c7=> ["self"]
 |.d9=> ["self"]
 |.g_=> ["self"]
def nV:Fn→Str
 |.law=>"law"
 |.u5=>"_law_cell_at"
 |.M5=>"_law_form"
 |.q8=>"_law_way_to"
 |.J2=>"_law_bent"
 |.unclear=>"unclear"
 |.L_=>"_law_same"
 |.Mj=>"_law_names"
 |.u_=>"_law_nodes"
 |.D_=>"_law_cell"
 |.Mi=>"_law_scope"
 |.K4=>"_law_one"
 |.j_=>"_law_marks"
 |.z_=>"_law_is_clear"
 |.K7=>"_law_after"
 |.j7=>"unclear_among"
 |.Mr=>"_law_text"
 |.G_=>"_law_place"
 |.A_=>"_law_choice"
 |.K5=>"_law_loop"
 |.Nx=>"_law_row"
 |.v5=>"_law_first"
 |.N7=>"_law_side"
 |.M6=>"_law_ends"
 |.G9=>"followers"
 |.w6=>"unclear_in"
 |.Pr=>"_law_way"
 |.m8=>"_law_node_first"
 |.K6=>"_law_begins"
 |.u6=>"beginnings"
 |.J7=>"is_clear"
 |.o_=>"behind_rounds"
 |.begins=>"begins"
 |.j8=>"signs_of_both"
 |.n_=>"ends"
 |.j4=>"ends"
 |.i_=>"ends"
 |.k_=>"ends"
 |.o7=>"ends"
 |.q_=>"is_clear_loop"
 |.J5=>"way_of"
 |.v8=>"have_common"
 |.p8=>"node_begins"
 |.signs=>"signs"
 |.G5=>"signs_but"
 |.h_=>"begins"
 |.f9=>"begins"
 |.d8=>"begins"
 |.g8=>"begins"
 |.j5=>"begins"
 |.c7=>"is_void"
 |.d9=>"is_void"
 |.g_=>"is_void"
def oW:Fn→Str
 |.n_=>"Word.ends"
 |.j4=>"Number.ends"
 |.i_=>"Quoted.ends"
 |.k_=>"Plain.ends"
 |.o7=>"Line.ends"
 |.h_=>"Word.begins"
 |.f9=>"Number.begins"
 |.d8=>"Quoted.begins"
 |.g8=>"Plain.begins"
 |.j5=>"Line.begins"
 |.c7=>"Way.is_void"
 |.d9=>"Plain.is_void"
 |.g_=>"Line.is_void"
 |f=>nV f
def vc:Fn→Bool
 |.n_|.j4|.i_|.k_|.o7|.h_|.f9|.d8|.g8|.j5|.c7|.d9|.g_=>false
 |_=>true
set_option genSizeOf false in
inductive Nt where
 |all|any|bool|dict|enumerate|int|isinstance|len|list|max|range|reversed|sorted|str|tuple
def GQ:Nt→Str
 |.all=>"all"
 |.any=>"any"
 |.bool=>"bool"
 |.dict=>"dict"
 |.enumerate=>"enumerate"
 |.int=>"int"
 |.isinstance=>"isinstance"
 |.len=>"len"
 |.list=>"list"
 |.max=>"max"
 |.range=>"range"
 |.reversed=>"reversed"
 |.sorted=>"sorted"
 |.str=>"str"
 |.tuple=>"tuple"
def ij:Fn→List Str
 |.law=> ["_law_script"]
 |.u5=> ["_law_script","_law_k"]
 |.M5=> ["_law_cells","_law_spot","_law_first_here","_law_tidy"]
 |.q8=> ["_law_nodes_here","_law_trail","_law_loop_here"]
 |.J2=> ["_law_nodes_here","_law_n","_law_spot"]
 |.unclear=> ["form"]
 |.L_=> ["_law_found","_law_due"]
 |.Mj=> ["_law_n"]
 |.u_=> ["_law_cells","_law_spot","_law_at","_law_deep"]
 |.D_=> ["_law_cells","_law_spot"]
 |.Mi=> ["_law_names_here"]
 |.K4=> ["_law_nodes_here"]
 |.j_=> []
 |.z_=> ["_law_node","_law_after_here"]
 |.K7=> ["_law_trail"]
 |.j7=> ["nodes","behind"]
 |.Mr=> ["_law_n"]
 |.G_=> ["_law_path","_law_kind","_law_tidy","_law_n"]
 |.A_=> ["_law_cells","_law_spot","_law_at","_law_path","_law_deep"]
 |.K5=> ["_law_cells","_law_spot","_law_at","_law_path","_law_kind","_law_deep"]
 |.Nx=> ["_law_path","_law_names_here"]
 |.v5=> ["_law_nodes_here"]
 |.N7=> ["_law_nodes_here","_law_after_here"]
 |.M6=> ["_law_way_here"]
 |.G9=> ["nodes","behind"]
 |.w6=> ["node","follow"]
 |.Pr=> ["_law_kind","_law_n"]
 |.m8=> ["_law_node"]
 |.K6=> ["_law_way_here"]
 |.u6=> ["nodes","follow"]
 |.J7=> ["node","follow"]
 |.o_=> ["loop","follow"]
 |.begins=> ["nodes"]
 |.j8=> ["one","other"]
 |.n_=> ["self"]
 |.j4=> ["self"]
 |.i_=> ["self"]
 |.k_=> ["self"]
 |.o7=> ["self"]
 |.q_=> ["loop","follow"]
 |.J5=> ["word"]
 |.v8=> ["one","other"]
 |.p8=> ["node"]
 |.signs=> []
 |.G5=> ["left_out"]
 |.h_=> ["self"]
 |.f9=> ["self"]
 |.d8=> ["self"]
 |.g8=> ["self"]
 |.j5=> ["self"]
 |.c7=> ["self"]
 |.d9=> ["self"]
 |.g_=> ["self"]
abbrev aac:=cK (.int 0)
abbrev aad:=cK (.int 1)
abbrev aae:=cK (.str [116,101,120,116])
abbrev aaf:=cK (.str [99,104,111,105,99,101])
abbrev aag:=cK (.int 2)
abbrev aah:=cK (.int 3)
abbrev aai:=cK (.str [])
abbrev aaj:=c2 d7 (ae 0) aac
abbrev aak:=cK (.str [108,105,110,101])
abbrev aal:=aa (ae 1) ag
abbrev aam:=cK (.str [112,108,97,105,110])
abbrev aaF:=cK (.int 4)
abbrev aan:=c2 d7 (ae 0) aaF
abbrev aao:=cK (.str [113,117,111,116,101,100])
abbrev aap:=cK (.str [112,108,97,99,101])
abbrev aaq:=cK (.bl true)
abbrev abr:=c2 d7 (ae 0) aah
abbrev aar:=aa abr ag
abbrev aas:=aa (ae 0) ag
abbrev aat:=cK (.str [119,111,114,100])
abbrev aau:=cK (.str [108,111,111,112])
abbrev aav:=cK (.bl false)
abbrev aaw:=aa (ae 2) ag
abbrev aax:=cK (.str [110,117,109,98,101,114])
abbrev aay:=cK .non
abbrev aaz:=c2 d7 (ae 2) aac
abbrev aaA:=aa (ae 3) ag
abbrev aaB:=aa (ae 0) aal
abbrev aaD:=c2 d7 (ae 4) aac
abbrev aaE:=c2 d7 (ae 0) aag
abbrev aaG:=cK (.int 95)
abbrev aaH:=c2 d7 (ae 4) aah
abbrev aaI:=c2 d7 (ae 1) aac
abbrev aaJ:=cN au (aa (cK (.str [97])) ag)
abbrev aaK:=cK (.int 5)
abbrev aaL:=cK (.int 12)
abbrev aaM:=aa (ae 4) ag
abbrev aaN:=aB (c2 dE (ae 4) aay)
abbrev aaO:=cK (.str [48,49,50,51,52,53,54,55,56,57])
abbrev aaP:=cK (.str [10,38,60,62,124])
abbrev aaQ:=cK (.int 7)
abbrev aaR:=aa (ae 5) ag
abbrev aaS:=c2 d7 (ae 2) (ae 0)
abbrev aaT:=c2 Rz (ae 0) (ae 1)
abbrev aaU:=ji aan gJ (dW aad)
abbrev aaV:=aB (c2 m9 aaj aau)
abbrev aaW:=aB (c2 m9 aaj aap)
abbrev aaX:=aB (c2 m9 aaj aaf)
abbrev abz:=aa aac ag
abbrev aaY:=aa (cN au abz) ag
abbrev aaZ:=cN bx ag
abbrev aa1:=cN au ag
abbrev aa2:=c2 d7 (ae 4) aaF
abbrev aa3:=c2 d7 (ae 2) aad
abbrev aa4:=c2 d7 (ae 0) aad
abbrev aa5:=ar (n8 3) (ar (n8 4) bv)
abbrev aa6:=cK (.str [116,119,110])
abbrev aa7:=cK (.str [45,48,49,50,51,52,53,54,55,56,57])
abbrev aa8:=Nm 3 (ar (n8 7) (ar (n8 8) (ar (n8 9) bv)))
abbrev aa9:=cK (.str [98])
abbrev aa_:=c2 d7 (ae 1) (ae 0)
abbrev abb:=ji (ae 2) (dW (c2 aT (ae 3) aad)) gJ
abbrev abd:=eY (ae 0)
abbrev abe:=cN gI aas
abbrev abf:=cK (.int 94)
abbrev abg:=cK (.int 24)
abbrev abh:=aa aay ag
abbrev abk:=aa aak ag
abbrev abl:=aa aaE ag
abbrev abm:=aP aav
abbrev abn:=cN fg ag
abbrev abo:=c2 d7 (ae 4) aad
abbrev abp:=c2 d7 (ae 2) aag
abbrev abq:=c2 d7 (ae 1) aad
abbrev abt:=c2 bA (ae 6) aaQ
abbrev abu:=c2 bA (ae 6) aaL
abbrev abv:=Nm 2 (ar (n8 2) (ar (n8 3) bv))
abbrev abw:=cK (.str [10])
abbrev abx:=c2 m9 (c2 aU (ae 1) aag) aad
abbrev aby:=c2 aU (c2 bA (ae 1) aag) aah
abbrev abA:=aa (ae 10) ag
abbrev abB:=aa (ae 1) aaw
abbrev abC:=c2 d7 (ae 1) (c1 yi aad)
abbrev abD:=bY (cM cz ba (ae 3) aaM)
abbrev abE:=aa (ae 8) ag
abbrev abF:=aP aaq
abbrev abG:=aB (c2 kt (ae 0) (ae 1))
abbrev abH:=aB (c2 Rz (ae 0) (ae 2))
abbrev abI:=aa (cK (.str [109])) ag
abbrev abJ:=cK (.int 9)
abbrev abK:=cK (.int 8)
abbrev abL:=aB (c2 Rz aai (ae 2))
def lL(C:CC):Nat→Option (List PV→Out)
 |0=>some (C .h_)
 |1=>some (C .f9)
 |2=>some (C .d8)
 |3=>some (C .g8)
 |4=>some (C .j5)
 |_=>none
def ja(C:CC):Nat→Option (List PV→Out)
 |0=>some (C .n_)
 |1=>some (C .j4)
 |2=>some (C .i_)
 |3=>some (C .k_)
 |4=>some (C .o7)
 |_=>none
def mt(C:CC):Nat→Option (List PV→Out)
 |0=>some (C .c7)
 |1=>some (C .c7)
 |2=>some (C .c7)
 |3=>some (C .d9)
 |4=>some (C .g_)
 |_=>none
inductive Fx where
 |none
def XO(C:CC):Fx→List PV→JQ
 |.none,_=>.bad
def kG(C:CC):Sx:=(ak (aC 9 (aA (C .unclear) aaw))
  (ak (v9 (sj (di (aB (c2 Vm (ae 4) aay)) (aB (c2 dE (ae 9) aay))) (di aaN (eP (ci (aA (C .L_) (aa (ae 9) aaM)))))) abm aW)
  (ak (ko (Nm 2 (ar (n8 10) (ar (n8 11) bv))) (c2 d7 (ae 7) (c2 aU (c2 aT (c2 bA (ae 1) (cK (.int 48))) (ae 8)) aaK)))
  (v9 (aB (c2 Qv (aA (C .unclear) abA) (ae 11))) abm aW))))
def qx(C:CC)(D:DD):Sx:=
 (ak (aC 1 (aA (C .u5) (aa (ae 0) (aa aad ag))))
  (ak (ko abv (bp (D .M5) (aa (ji (ae 0) (dW aag) (dW (cK (.int 34)))) (aa (cN fg (aa aac (aa abg ag))) (aa (aA (C .u5) (aa (ae 0) abz)) (aa abx ag))))))
  (ak (v9 (aB (c2 U5 aby aac)) (aC 2 (bp (D .J2) (aa (ae 2) (aa (c2 bA (ae 1) (cK (.int 6))) (aa (cN fg abz) ag))))) aW)
  (ak (aC 4 (aA (C .q8) (aa (ae 2) (aa aaZ abh))))
  (ak (v9 (di aaN (di (aB abx) (aB (c2 m9 aby aac)))) abm aW)
  (ak (ko (Nm 2 (ar (n8 5) (ar (n8 6) bv))) (cN au (aa (cN au (aa aap (aa aaJ (aa aat ag)))) (aa (cN au (aa aap (aa (cN au (aa aa9 ag)) abk))) ag))))
  (ak (aC 7 (cN fg (aa (cN au (aa (cN au (aa (ae 6) aaR)) aaY)) (aa (cN au (aa (cN au aaR) abh)) (aa (cN au (aa (cN au (aa (cN au (aa aaf (aa aaJ (aa aa1 (aa aa1 ag))))) ag)) aaY)) ag)))))
  (ak (bY (cM cz ba (ae 7) (aa (cN au (aa (cN au (aa (cN au (aa aaf (aa aaJ (aa aa1 (aa (cN au (aa (ae 6) ag)) ag))))) ag)) aaY)) ag)))
  (ak (bY (cM cz ba (ae 7) (aa (cN au (aa (cN au (aa (cN au (aa aaf (aa aaJ (aa (cN au aaR) (aa aa1 ag))))) ag)) abh)) ag)))
  (ak (dD (bD (aa aag ag)) (n8 8) (kG C))
  abF))))))))))
def eL(C:CC):Sx:=
 (ak (v9 (aB (c2 Wq (ae 1) abe)) (aP (c2 d7 (ae 0) (ae 1))) aW)
  (aP aac))
def gz(C:CC):Sx:=(ak (aC 9 (cN bx (aa (aA (C .K4) (aa (c2 aT (cN bx (aa (cN au (aa aae (aa (c2 d7 (aA (C .j_) ag) (c2 aU (c2 aT (c2 bA (ae 7) (cK (.int 189))) (ae 8)) abf)) ag))) ag)) (ae 6)) ag)) (aa aa1 ag))))
  (ak (aC 10 (c2 aU (c2 aU (c2 aT (ae 7) (c2 jx (ae 8) (ae 8))) aah) aag))
  (ak (aC 11 (c2 d7 (cN bx (aa (cN au (aa aaH ag)) (aa (cN au (aa aa2 (aa aaH ag))) ag))) (c2 aU (ae 8) aag)))
  (aC 6 (cN bx (aa (cN au (aa aaf (aa (ae 11) (aa (c2 d7 (ae 9) (ae 10)) (aa (c2 d7 (ae 9) (c2 sK aad (ae 10))) ag))))) (aa (cN au (aa aae (aa (cK (.str [126])) ag))) ag)))))))
def gU(C:CC)(D:DD):Sx:=
 (ak (aC 4 (aA (C .Mj) aaw))
  (ak (aC 5 (cN au (aa (aA (C .Mi) aaM) (aa (ae 4) aaA))))
  (ak (aC 6 (bp (D .u_) (aa (ae 0) (aa (ae 1) (aa (ae 5) (aa aah ag))))))
  (ak (aC 7 (bp (D .D_) aaB))
  (ak (dD (bD (aa (c2 jx (c2 aU (c2 bA (ae 7) abJ) (cK (.int 21))) (cN kY (aa (c2 m9 (c2 aU (ae 7) abJ) aad) ag))) ag)) (n8 8) (gz C))
  (aP (cN au (aa (aA (C .K4) (aa (ae 6) ag)) aaM))))))))
def cS(C:CC):Sx:=(ak (aC 10 (aA (C .q8) (aa (ae 8) (aa (ae 5) (aa (ae 9) ag)))))
  (v9 (aB (c2 dE (ae 10) aay)) (aP (c2 aT (ae 7) (ae 10))) aW))
def dG(C:CC):Sx:=(ak (aC 5 (c2 aT (ae 1) (cN bx (aa (cN au (aa (ae 0) (aa (ae 3) aaw))) ag))))
  (ak (v9 (eP (ci (aA (C .z_) (aa (ae 4) (aa (aA (C .K7) aaR) ag))))) (aP (cN au aaA)) aW)
  (ak (aC 6 aaZ)
  (ak (v9 (aB (c2 m9 aaD aau)) (aC 6 (cN bx (aa (cN au (aa (cN au aaA) (aa aaH aaM))) ag))) aW)
  (ak (v9 (aB (c2 m9 aaD aaf)) (aC 6 (cN bx (aa (cN au (aa (cN au (aa (ae 3) abz)) (aa (c2 d7 (ae 4) aag) abh))) (aa (cN au (aa (cN au (aa (ae 3) (aa aad ag))) (aa aaH abh))) ag)))) aW)
  (dD (eY (ae 6)) aa8 (cS C)))))))
def eh(C:CC):Sx:=
 (ak (dD (iO aas) (Nm 2 aa5) (dG C))
  (aP aay))
def bP(C:CC)(D:DD):Sx:=(v9 (aB (c2 m9 aaD aae)) (ak (kj (ae 2) aac (c2 aT aaz aad))
  (v9 (di (aB (c2 m9 aaz (c2 aU (ae 1) aaL))) (aB (c2 m9 (c2 aU (c2 bA (ae 1) aaL) aag) aac))) (bY (cM cz ba (ae 3) (aa (cN au (aa aae (aa (c2 aT (c2 d7 (aA (C .j_) ag) (c2 aU (c2 bA (ae 1) abg) aaG)) abo) ag))) ag))) (v9 (aB (c2 Qv aaz (c2 aU (ae 1) aaL))) abD aW))) (v9 (aB (c2 m9 aaD aau)) (bY (cM cz ba (ae 3) (aa (c2 aT (ji (ae 4) gJ (dW aah)) (cN au (aa (bp (D .J2) (aa aaH abB)) (aa aa2 ag)))) ag))) (v9 (aB (c2 m9 aaD aaf)) (bY (cM cz ba (ae 3) (aa (c2 aT (ji (ae 4) gJ (dW aag)) (cN au (aa (bp (D .J2) (aa (c2 d7 (ae 4) aag) abB)) (aa (bp (D .J2) (aa aaH abB)) ag)))) ag))) abD)))
def gW(C:CC)(D:DD):Sx:=
 (ak (aC 3 abn)
  (ak (dD abd (n8 4) (bP C D))
  (aP (cN nQ aaA))))
def iJ(C:CC):Sx:=
 (aP (aA (C .j7) (aa (ae 0) (aa (cK (.tup jl)) ag))))
def kD(C:CC):Ex:=(aA (C .L_) (aa aa_ (aa aaS ag)))
def vz(C:CC):Ex:=(aA (C .L_) (aa aa_ (aa aaS ag)))
def gS(C:CC):Sx:=
 (ak (v9 (ci (cN me (aa (ae 1) (aa (cN au (aa (cK (.ty "list")) (aa (cK (.ty "tuple")) ag))) ag)))) (ak (v9 (sj (aB (c2 Qv (cN cr (aa (ae 0) (aa (cK (.ty "list")) ag))) (cN cr (aa (ae 1) (aa (cK (.ty "list")) ag))))) (aB (c2 Qv (cN cr (aa (ae 0) (aa (cK (.ty "tuple")) ag))) (cN cr (aa (ae 1) (aa (cK (.ty "tuple")) ag)))))) abm aW)
  (aP (vK (c2 m9 abe (cN gI aal)) (cN uL (aa (cN QH (bG [0,1] (bD (aa (cN gI aal) ag)) bX (kD C))) ag))))) aW)
  (ak (v9 (ci (cN cr (aa (ae 1) (aa (cK (.ty "dict")) ag)))) (ak (v9 (sj (eP (ci (cN cr (aa (ae 0) (aa (cK (.ty "dict")) ag))))) (aB (c2 Qv (cN mS aas) (cN mS aal)))) abm aW)
  (aP (cN uL (aa (cN QH (bG [0,1] (eY (ae 1)) bX (vz C))) ag)))) aW)
  (aP (vK (c2 m9 (cN cr (aa (ae 0) (aa (cK (.ty "bool")) ag))) (cN cr (aa (ae 1) (aa (cK (.ty "bool")) ag)))) (c2 m9 (ae 0) (ae 1))))))
def jK(C:CC):Ex:=(c2 d7 (ae 1) (c2 aU (c2 aT (c2 bA (ae 2) (cK (.int 192))) (c2 jx aaK (ae 0))) (cK (.int 26))))
def dz(C:CC):Sx:=(ak (aC 6 (c2 d7 (ae 1) (c2 aU (c2 aT (c2 aT (c2 bA (ae 0) (cK (.int 192))) (c2 jx aaQ (ae 5))) aad) (cK (.int 26)))))
  (bY (cM cz ba (ae 4) (aa (c2 d7 (cN bx (aa (c2 aT (ji (ae 2) gJ (dW aad)) (cN AB aaR)) (aa (c2 aT (c2 aT (ji (ae 2) gJ (dW (ae 3))) (ae 6)) abb) (aa (ji (c2 aT (ae 6) (ae 2)) gJ (dW (c2 aT aad (c2 aU (c2 bA (ae 0) aah) abK)))) ag)))) (c2 aU (ae 0) aah)) ag))))
def iL(C:CC):Sx:=
 (ak (aC 1 (cK (.str bI)))
  (ak (aC 2 (cM jC ie aai (aa (cN QH (bG [1,0] (bD (aa abK ag)) bX (jK C))) ag)))
  (ak (aC 3 (c2 aU (c2 bA (ae 0) abg) abK))
  (ak (aC 4 abn)
  (ak (dD (bD (aa aaL ag)) (n8 5) (dz C))
  (aP (ae 4)))))))
def bW(C:CC):Tx:=(di (aB (c2 Rz aa4 (ae 1))) (aB (c2 Qv (ae 1) aai)))
def bZ(C:CC):Ex:=(ae 0)
def eF(C:CC)(D:DD):Sx:=(ak (aC 6 (bp (D .D_) aaB))
  (ak (aC 7 (c2 d7 (cN bx (aa aai (aa aa6 (aa aa6 (aa (cK (.str [108,109])) (aa (cK (.str [108,109])) (aa aa9 (aa aa9 ag)))))))) (c2 aU (ae 6) (c2 d7 (cN bx (aa aaQ (aa aah ag))) (cN kY (aa (VL (c2 Wq (ae 3) aad) (c2 U5 aaI abg)) ag))))))
  (ak (aC 8 (cN QH (bG [7] (eY aaz) (bW C) (bZ C))))
  (ak (ko (Nm 2 (ar (n8 9) (ar (n8 10) bv))) (c2 d7 (c2 aT (ae 8) (cN bx (aa (cN au (aa aay (aa aai ag))) ag))) (c2 aU abt (cN uI (aa aad (aa (cN gI abE) ag))))))
  (v9 (aB (c2 Vm (ae 9) aay)) (bY (cM cz ba (ae 4) (aa (cN au (aa aae (aa (aA (C .Mr) (aa abt ag)) ag))) ag))) (v9 (aB (c2 Rz (ae 10) aa6)) (aC 4 (c2 gm (ae 4) (aA (C .G_) (aa (ae 9) (aa (ae 10) (aa abp (aa (c2 bA (ae 6) (cK (.int 49))) ag))))))) (v9 (aB (c2 m9 (ae 10) aa9)) (aC 4 (c2 gm (ae 4) (bp (D .A_) (aa (ae 0) (aa (ae 1) (aa (ae 2) (aa (ae 9) aaA))))))) (aC 4 (c2 gm (ae 4) (bp (D .K5) (aa (ae 0) (aa (ae 1) (aa (ae 2) (aa (ae 9) (aa (ae 10) aaA)))))))))))))))
def fL(C:CC)(D:DD):Sx:=
 (ak (aC 4 abn)
  (ak (dD (bD (aa (c2 aT aad (c2 aU (c2 bA (bp (D .D_) aaB) aaK) aaF)) ag)) (n8 5) (eF C D))
  (aP (ae 4))))
def gV(C:CC):Sx:=
 (ak (kj (ae 1) aac (c2 aT aaI aad))
  (ak (aC 2 aaI)
  (ak (aC 3 (c2 aT (c2 jx (c2 jx (cK (.int 31)) (ae 2)) (ae 2)) (c2 jx (cK (.int 7919)) (ae 2))))
  (ak (v9 (aB (c2 U5 abe aac)) (aC 3 (c2 aT (ae 3) (c2 jx (c2 d7 (ae 0) (c2 aU (ae 2) abe)) (c2 aT aad (c2 bA (ae 2) abe))))) aW)
  (aP (c2 bA (c2 aU (c2 jx (ae 3) (cK (.int 48271))) (cK (.int 2147483647))) aaQ))))))
def iK(C:CC):Sx:=
 (aP (c2 aT (c2 aT (aA (C .Nx) (aa aa1 aas)) (aA (C .Nx) (aa (cN au (aa aan ag)) aas))) (cN bx (aa (cN au (aa (cN au (aa (c2 d7 (ae 0) aaK) ag)) (aa (cK (.str [108])) ag))) (aa (cN au (aa (cN au (aa (c2 d7 (ae 0) (cK (.int 6))) ag)) abI)) ag)))))
def bM(C:CC):Sx:=(v9 (di (aB (c2 m9 aaz aae)) (di (aB (c2 Qv (ae 1) aaZ)) (aB (c2 m9 (c2 d7 abC aac) aae)))) (kj (ae 1) (c1 yi aad) (cN au (aa aae (aa (c2 aT (c2 d7 abC aad) aa3) ag)))) (bY (cM cz ba (ae 1) aaw)))
def lR(C:CC):Sx:=
 (ak (aC 1 abn)
  (ak (dD abd (n8 2) (bM C))
  (aP (cN nQ aal))))
def mB(C:CC):Sx:=
 (ak (aC 0 (cK (.str zY)))
  (aP (c2 aT (ae 0) (cK (.str zX)))))
def gF(C:CC):Tx:=(aB (c2 kt (ae 0) (aA (C .M6) (aa (c2 d7 (ae 1) aag) ag))))
def gO(C:CC):Ex:=(ae 0)
def gE(C:CC):Tx:=(aB aaT)
def gN(C:CC):Ex:=(ae 0)
def gM(C:CC):Ex:=(aA (C .N7) aaB)
def gD(C:CC):Tx:=(aB (c2 Rz (ae 0) abq))
def gL(C:CC):Ex:=(ae 0)
def bV(C:CC)(M:NN):Sx:=
 (ak (v9 aaW (aP (c2 m9 (cN QH (bG [0] (lT (ae 1)) (gF C) (gO C))) aaZ)) aW)
  (ak (v9 aaV (ak (aC 2 (eW (M .v5) aar))
  (ak (v9 abL abm aW)
  (ak (aC 3 (c2 aT (cN jy aaw) (cN jy (aa aaU ag))))
  (aP (c2 m9 (cN QH (bG [1] (lT (ae 3)) (gE C) (gN C))) aaZ))))) aW)
  (ak (v9 aaX (ak (aC 4 (cN QH (bG [1] (lT (ji (ae 0) (dW aag) (dW aaF))) bX (gM C))))
  (aP (c2 m9 (cN QH (bG [4] (lT aaD) (gD C) (gL C))) aaZ))) aW)
  abF)))
def dB(C:CC)(M:NN):Sx:=(ak (aC 5 (eW (M .v5) (aa abb ag)))
  (ak (aC 6 (lP (ae 5) aai aav))
  (ak (bY (pc (ae 1) (ae 5)))
  (ak (v9 (eP (ci (ae 6))) (aP (Va (ae 1))) aW)
  (v9 (di aaN (aB (c2 Qv aa2 aai))) (nG (ae 1) (c2 d7 aa2 aac) aaq) (v9 aaN (ak (bY (pc (ae 1) (eW (M .v5) (aa aaH ag))))
  (bY (lP (ae 1) aai aay))) aW))))))
def de(C:CC)(M:NN):Sx:=
 (ak (aC 1 tU)
  (ak (dD (vQ aas) (Nm 3 (ar (n8 2) aa5)) (dB C M))
  (ak (nG (ae 1) aai aaq)
  (aP (Va (ae 1))))))
def bL(C:CC):Sx:=(ak (aC 5 (aA (C .w6) (aa (ae 4) (aa (c2 d7 (ae 2) (ae 3)) ag))))
  (v9 (aB (c2 dE (ae 5) aay)) (aP (c2 aT (cN au aaA) (ae 5))) aW))
def bu(C:CC):Sx:=
 (ak (aC 2 (aA (C .G9) aaB))
  (ak (dD (iO aas) (Nm 2 aa5) (bL C))
  (aP aay)))
def kC(C:CC):Ex:=(c2 d7 (aA (C .j_) ag) (c2 aU (c2 aT (c2 bA (ae 1) aah) (c2 jx (ae 0) (c2 aT aad (c2 aU (c2 bA (ae 1) (cK (.int 300))) abf)))) aaG))
def jO(C:CC):Sx:=
 (aP (cM jC ie aai (aa (cN QH (bG [0] (bD (aa (c2 aT aad (c2 aU (ae 0) aah)) ag)) bX (kC C))) ag)))
def cR(C:CC):Sx:=
 (ak (aC 4 (aA (C .Pr) (aa (ae 1) aaA)))
  (ak (aC 5 (cN au (aa aap (aa (ae 0) aaM))))
  (ak (v9 (di (eP (ci (ae 2))) (aB (c2 U5 (c2 aU (c2 bA (ae 3) aaK) aah) aac))) (aP (cN bx aaR)) aW)
  (ak (aC 6 (c2 d7 (BA (mJ [(aam,aaP),(aak,(cK (.str [10,10,10,10,10])))]) (ae 4) (cK (.str [32,46,59,60,10]))) (c2 aU (c2 bA (ae 3) (cK (.int 576))) aaK)))
  (aP (cN bx (aa (ae 5) (aa (cN au (aa aae (aa (c2 aT (ae 6) (aA (C .Mr) (aa (c2 bA (ae 3) aaQ) ag))) ag))) ag))))))))
def bU(C:CC)(D:DD):Ex:=(bp (D .u_) (aa (ae 1) (aa (ae 2) (aa (ae 3) (aa (c2 sK (ae 4) aad) ag)))))
def bT(C:CC):Ex:=(c2 aT (cN bx (aa (cN au (aa aae (aa (c2 d7 (aA (C .j_) ag) (c2 aU (c2 aT (ae 2) (ae 0)) aaG)) ag))) ag)) aa_)
def ei(C:CC)(D:DD):Sx:=
 (ak (aC 5 (bp (D .D_) aaB))
  (ak (aC 6 (c2 aU (ae 5) aaG))
  (ak (aC 7 (cN lg (bG [0,1,2,4] (bD (aa aag ag)) bX (bU C D))))
  (ak (v9 (ci abp) (aC 7 (cN lg (bG [7,6] (bD (aa aag ag)) bX (bT C)))) aW)
  (ak (v9 (aB (c2 m9 (c2 aU (c2 bA (ae 5) aaG) aah) aad)) (kj (ae 7) (c2 aU (c2 bA (ae 5) (cK (.int 285))) aag) aaZ) aW)
  (ak (aC 8 (cN au (aa aaf (aa (ae 3) (aa (aA (C .K4) (aa (c2 d7 (ae 7) aac) ag)) (aa (aA (C .K4) (aa (c2 d7 (ae 7) aad) ag)) ag))))))
  (ak (v9 (di (eP (ci abp)) (aB (c2 m9 (c2 aU (c2 bA (ae 5) aaK) aag) aad))) (aP (cN bx abE)) aW)
  (aP (cN bx (aa (ae 8) (aa (cN au (aa aae (aa (c2 d7 (aA (C .j_) ag) (c2 aU (c2 aT (ae 6) aag) aaG)) ag))) ag)))))))))))
def cJ(C:CC):Tx:=(aB (c2 Qv (c2 d7 aaj aac) (ae 1)))
def cL(C:CC):Ex:=(ae 0)
def gT(C:CC)(D:DD):Sx:=
 (ak (aC 6 (bp (D .D_) aaB))
  (ak (ko aa8 (ae 2))
  (ak (aC 10 (c2 d7 (ae 8) (c2 aU (ae 6) aaL)))
  (ak (aC 11 (cN lg (bG [10] (eY (ae 7)) (cJ C) (cL C))))
  (ak (v9 (aB (c2 m9 (ae 4) (cK (.str [108])))) (aC 11 (c2 gm (c2 aT (ae 11) (aA (C .Nx) (aa (cN au abA) abE))) (cN bx (aa (cN au (aa (cN au (aa (ae 10) (aa (c2 d7 (ae 8) aaQ) ag))) abI)) ag)))) (bY (cM cz ba (ae 11) (aa (cN au (aa (cN au abA) (aa (cK (.str [119])) ag))) ag))))
  (ak (aC 12 (bp (D .u_) (aa (ae 0) (aa (ae 1) (aa (cN au (aa (Va (ae 11)) (aa (ae 8) (aa (ae 9) ag)))) (aa (c2 sK (ae 5) aad) ag))))))
  (ak (aC 13 (c2 d7 (aA (C .j_) ag) (c2 aU abu aaG)))
  (ak (aC 14 (c2 aT aad (c2 aU (c2 bA (ae 6) (cK (.int 1140))) abf)))
  (ak (aC 15 (c2 d7 (aA (C .j_) ag) (c2 aU (c2 aT (c2 aT abu aad) (c2 aU (ae 14) abf)) aaG)))
  (ak (v9 (ci (ae 9)) (aC 12 (c2 aT (cN bx (aa (cN au (aa aae (aa (ae 13) ag))) ag)) (ae 12))) aW)
  (ak (aC 16 (cN au (aa aau (aa (ae 10) (aa (ae 3) (aa (aA (C .K4) (aa (ae 12) ag)) (aa (c2 d7 (cN bx (aa aai (aa (c2 aT (ae 13) (cK (.str [44,32]))) (aa (c2 aT (ae 15) (ae 13)) (aa (ae 15) ag))))) (c2 aU abt aaF)) ag)))))))
  (ak (v9 (di (eP (ci (ae 9))) (aB (c2 m9 (c2 aU (c2 bA (ae 6) aaK) aag) aad))) (aP (cN bx (aa (ae 16) ag))) aW)
  (aP (cN bx (aa (ae 16) (aa (cN au (aa aae (aa (c2 d7 (aA (C .j_) ag) (c2 aU (c2 aT abu (ae 14)) aaG)) ag))) ag))))))))))))))))
def mo(C:CC):Ex:=(cN au (aa (c2 sM (ae 1) (cN au (aa aaS ag))) (aa (c2 d7 (cK (.str [116,119,110,98])) (ae 0)) ag)))
def lQ(C:CC):Sx:=
 (aP (cN QH (bG [0,1] (bD (aa aaF ag)) bX (mo C))))
def eG(C:CC)(M:NN):Sx:=(ak (aC 3 (eW (M .m8) aaw))
  (ak (aC 4 (lP (ae 3) aai aav))
  (ak (bY (pc (ae 1) (ae 3)))
  (v9 (eP (ci (ae 4))) (aP (ae 1)) aW))))
def cZ(C:CC)(M:NN):Sx:=
 (ak (aC 1 tU)
  (ak (dD abd (n8 2) (eG C M))
  (ak (nG (ae 1) aai aaq)
  (aP (ae 1)))))
def dY(C:CC)(M:NN):Sx:=
 (ak (aC 2 (eW (M .v5) aas))
  (ak (v9 (ci (lP (ae 2) aai aav)) (bY (pc (ae 2) (ae 1))) aW)
  (aP (Va (ae 2)))))
def uj(C:CC):Tx:=abG
def vA(C:CC):Ex:=(ae 0)
def oO(C:CC):Sx:=
 (ak (v9 (aB (c2 m9 (ae 0) aao)) (aP (aA (C .j_) ag)) aW)
  (ak (v9 (sj (aB (c2 m9 (ae 0) aam)) (aB (c2 m9 (ae 0) aak))) (aP (c2 d7 (mJ [(aam,aaP),(aak,abw)]) (ae 0))) aW)
  (ak (aC 1 (c2 d7 (mJ [(aat,(aA (C .K6) (aa aat ag))),(aax,aaO)]) (ae 0)))
  (aP (cM jC ie aai (aa (cN QH (bG [1] (eY (aA (C .j_) ag)) (uj C) (vA C))) ag))))))
def cI(C:CC):Sx:=(ak (bY (cM cz ba (ae 2) aaA))
  (aC 3 (aA (C .u6) (aa (cN au aaM) aaA))))
def eM(C:CC):Sx:=
 (ak (aC 2 abn)
  (ak (aC 3 (ae 1))
  (ak (dD (vQ aas) (n8 4) (cI C))
  (aP (Bz aaw)))))
def bH(C:CC):Sx:=(ak (aC 4 (aA (C .j7) (aa (ae 3) aal)))
  (v9 aaN (aP (c2 aT (cN au aaw) (ae 4))) aW))
def aM(C:CC):Sx:=
 (ak (v9 (eP (ci (aA (C .J7) aaB))) (aP aa1) aW)
  (ak (v9 aaV (aP (aA (C .j7) (aa abr (aa (aA (C .o_) aaB) ag)))) aW)
  (ak (v9 aaX (dD (iO (aa (cN au (aa aaE aar)) ag)) abv (bH C)) aW)
  (aP aay))))
def jb(C:CC):Sx:=
 (ak (v9 (aB (c2 m9 (c2 aU (c2 bA (ae 1) (cK (.int 64))) abJ) aad)) (aP (c2 d7 (cN bx (aa aat (aa aax (aa aao (aa aam abk))))) (c2 aU (ae 1) aaK))) aW)
  (aP (c2 d7 (cN bx (aa aax (aa (c2 d7 (cN bx (aa aam (aa aao abk))) (c2 aU (ae 1) aah)) (aa (c2 d7 (cN bx (aa aat (aa aam (aa aao abk)))) (c2 aU (ae 1) aaF)) ag)))) (cM jC wF (cK (.str [110,116,119])) aas))))
def mq(C:CC):Ex:=(cN au (aa (ae 0) (aa aaq ag)))
def aN(C:CC)(M:NN):Sx:=
 (ak (v9 (aB (c2 m9 aaj aae)) (aP (mx [((c2 d7 aa4 aac),aaq)])) aW)
  (ak (v9 aaW (ak (aC 1 (aA (C .K6) abl))
  (aP (cN uK (aa (cN QH (bG [] (eY (c2 aT (cN jy aal) (c2 jx (cN bx (aa aai ag)) (cN kY (aa (c2 Rz aaE (cN au (aa aam abk))) ag))))) bX (mq C))) ag)))) aW)
  (ak (v9 aaX (ak (aC 2 (eW (M .v5) abl))
  (ak (bY (pc (ae 2) (eW (M .v5) aar)))
  (aP (ae 2)))) aW)
  (ak (aC 2 (eW (M .v5) aar))
  (ak (v9 (di abL (aB (c2 Qv aan aai))) (nG (ae 2) (c2 d7 aan aac) aaq) aW)
  (ak (nG (ae 2) aai aaq)
  (aP (ae 2))))))))
def qE(C:CC):Tx:=(aB (c2 kt (ae 0) (aA (C .M6) aal)))
def rf(C:CC):Ex:=(ae 0)
def kF(C:CC):Sx:=
 (ak (aC 1 (cK (.str bI)))
  (ak (aC 2 (mJ [(aat,(c2 aT (c2 aT (ae 1) (cM jC uH (ae 1) ag)) aaO)),(aax,aa7),(aao,(cK (.str [34])))]))
  (ak (v9 abH (aP aaS) aW)
  (aP (cM jC ie aai (aa (cN QH (bG [0] (eY (aA (C .j_) ag)) (qE C) (rf C))) ag))))))
def dO(C:CC):Sx:=
 (ak (aC 2 (aA (C .begins) aas))
  (ak (v9 (ci aa3) (aP (cN au (aa (aA (C .j8) (aa aaz (aa aaI ag))) (aa abq ag)))) aW)
  (aP (cN au (aa aaz (aa aav ag))))))
def iZ(C:CC):Ex:=aaT
def cj(C:CC):Sx:=
 (ak (v9 aaW (ak (aC 2 (kh (ja C) (aA (C .J5) abl) ag))
  (aP (cN uL (aa (cN QH (bG [2] (eY aaI) bX (iZ C))) ag)))) aW)
  (ak (v9 aaV (aP (aA (C .q_) aaB)) aW)
  (ak (v9 aaX (ak (aC 3 (aA (C .u6) (aa aaE aal)))
  (ak (aC 4 (aA (C .u6) (aa abr aal)))
  (aP (vK (yQ (aA (C .v8) (aa (c2 d7 (ae 3) aac) (aa aaD ag)))) (yQ (vK (c2 d7 (ae 3) aad) abo)))))) aW)
  abF)))
def cF(C:CC):Sx:=
 (ak (aC 2 (Ec (ci aan) aaU (c2 d7 (aA (C .begins) aar) aac)))
  (aP (cN au (aa (aA (C .j8) (aa aaI aaw)) (aa abq ag)))))
def cg(C:CC):Sx:=(ak (aC 3 (aA (C .p8) aaw))
  (ak (aC 1 (aA (C .j8) (aa (ae 1) (aa (c2 d7 (ae 3) aac) ag))))
  (v9 (eP (ci (c2 d7 (ae 3) aad))) (aP (cN au (aa (ae 1) (aa aav ag)))) aW)))
def iM(C:CC):Sx:=
 (ak (aC 1 aai)
  (ak (dD abd (n8 2) (cg C))
  (aP (cN au (aa (ae 1) (aa aaq ag))))))
def eO(C:CC):Tx:=(sj (aB aaT) abH)
def eU(C:CC):Ex:=(ae 0)
def cX(C:CC):Sx:=
 (aP (cM jC ie aai (aa (cN QH (bG [0,1] (eY (aA (C .signs) ag)) (eO C) (eU C))) ag)))
def jP(C:CC):Sx:=
 (aP (aA (C .G5) (aa (cK (.str nM)) ag)))
def ir(C:CC):Sx:=
 (aP (aA (C .G5) (aa aaO ag)))
def iq(C:CC):Sx:=
 (aP (aA (C .signs) ag))
def jc(C:CC):Sx:=
 (aP aaP)
def jQ(C:CC):Sx:=
 (aP abw)
def cE(C:CC):Sx:=
 (ak (aC 2 (aA (C .begins) aar))
  (aP (vK (yQ aa3) (yQ (aA (C .v8) (aa (c2 aT aaz aaU) (aa aaI ag)))))))
def oN(C:CC):Sx:=
 (ak (v9 (aB (c2 uJ (ae 0) aat)) (aP (qr 0)) aW)
  (ak (v9 (aB (c2 uJ (ae 0) aax)) (aP (qr 1)) aW)
  (ak (v9 (aB (c2 uJ (ae 0) aao)) (aP (qr 2)) aW)
  (ak (v9 (aB (c2 uJ (ae 0) aam)) (aP (qr 3)) aW)
  (ak (v9 (aB (c2 uJ (ae 0) aak)) (aP (qr 4)) aW)
  zv)))))
def gf(C:CC):Ex:=aaT
def dZ(C:CC):Sx:=
 (aP (cN Dk (aa (cN QH (bG [1] abd bX (gf C))) ag)))
def bq(C:CC):Sx:=
 (ak (v9 (aB (c2 m9 aaj aae)) (aP (cN au (aa (ji aa4 gJ (dW aad)) (aa (c2 m9 aa4 aai) ag)))) aW)
  (ak (v9 aaW (ak (aC 1 (aA (C .J5) abl))
  (aP (cN au (aa (kh (lL C) (ae 1) ag) (aa (kh (mt C) (ae 1) ag) ag))))) aW)
  (ak (v9 aaV (ak (aC 2 (aA (C .begins) aar))
  (ak (aC 3 (Ec (ci aa3) aaU aai))
  (aP (cN au (aa (aA (C .j8) (aa aaz aaA)) (aa aaq ag)))))) aW)
  (ak (aC 4 (aA (C .begins) abl))
  (ak (aC 5 (aA (C .begins) aar))
  (aP (cN au (aa (aA (C .j8) (aa aaD (aa (c2 d7 (ae 5) aac) ag))) (aa (VL abo (c2 d7 (ae 5) aad)) ag)))))))))
def rK(C:CC):Sx:=
 (aP (cK (.str aF)))
def oT(C:CC):Tx:=abG
def oX(C:CC):Ex:=(ae 0)
def jN(C:CC):Sx:=
 (aP (cM jC ie aai (aa (cN QH (bG [0] (eY (aA (C .signs) ag)) (oT C) (oX C))) ag)))
def io(C:CC):Sx:=
 (aP (cK (.str nM)))
def gj(C:CC):Sx:=
 (aP aa7)
def gh(C:CC):Sx:=
 (aP (cK (.str [34])))
def gX(C:CC):Sx:=
 (aP (aA (C .G5) (aa aaP ag)))
def iu(C:CC):Sx:=
 (aP (aA (C .G5) (aa abw ag)))
def ip(C:CC):Sx:=
 abm
def gi(C:CC):Sx:=
 abF
def gY(C:CC):Sx:=
 abF
def FL:Nat→CC×DD×NN
 |0=>(fun _ _=>.bad,fun _ _ _=>.bad,fun _ _=>.bad)
 |k+1=>(fun f ps=>match f with
  |.law=>aJ (qx (FL k).1 (FL k).2.1) 1 12 ps
  |.u5=>aJ (eL (FL k).1) 2 2 ps
  |.q8=>aJ (eh (FL k).1) 3 11 ps
  |.unclear=>aJ (iJ (FL k).1) 1 1 ps
  |.L_=>aJ (gS (FL k).1) 2 2 ps
  |.Mj=>aJ (iL (FL k).1) 1 7 ps
  |.Mi=>aJ (iK (FL k).1) 1 1 ps
  |.K4=>aJ (lR (FL k).1) 1 3 ps
  |.j_=>aJ (mB (FL k).1) 0 1 ps
  |.z_=>aJ (bV (FL k).1 (FL k).2.2) 2 5 ps
  |.K7=>aJ (de (FL k).1 (FL k).2.2) 1 7 ps
  |.j7=>aJ (bu (FL k).1) 2 6 ps
  |.Mr=>aJ (jO (FL k).1) 1 1 ps
  |.G_=>aJ (cR (FL k).1) 4 7 ps
  |.Nx=>aJ (lQ (FL k).1) 2 2 ps
  |.N7=>aJ (dY (FL k).1 (FL k).2.2) 2 3 ps
  |.M6=>aJ (oO (FL k).1) 1 2 ps
  |.G9=>aJ (eM (FL k).1) 2 5 ps
  |.w6=>aJ (aM (FL k).1) 2 5 ps
  |.Pr=>aJ (jb (FL k).1) 2 2 ps
  |.K6=>aJ (kF (FL k).1) 1 3 ps
  |.u6=>aJ (dO (FL k).1) 2 3 ps
  |.J7=>aJ (cj (FL k).1) 2 5 ps
  |.o_=>aJ (cF (FL k).1) 2 3 ps
  |.begins=>aJ (iM (FL k).1) 1 4 ps
  |.j8=>aJ (cX (FL k).1) 2 2 ps
  |.n_=>aJ (jP (FL k).1) 1 1 ps
  |.j4=>aJ (ir (FL k).1) 1 1 ps
  |.i_=>aJ (iq (FL k).1) 1 1 ps
  |.k_=>aJ (jc (FL k).1) 1 1 ps
  |.o7=>aJ (jQ (FL k).1) 1 1 ps
  |.q_=>aJ (cE (FL k).1) 2 3 ps
  |.J5=>aJ (oN (FL k).1) 1 1 ps
  |.v8=>aJ (dZ (FL k).1) 2 2 ps
  |.p8=>aJ (bq (FL k).1) 1 6 ps
  |.signs=>aJ (rK (FL k).1) 0 0 ps
  |.G5=>aJ (jN (FL k).1) 1 1 ps
  |.h_=>aJ (io (FL k).1) 1 1 ps
  |.f9=>aJ (gj (FL k).1) 1 1 ps
  |.d8=>aJ (gh (FL k).1) 1 1 ps
  |.g8=>aJ (gX (FL k).1) 1 1 ps
  |.j5=>aJ (iu (FL k).1) 1 1 ps
  |.c7=>aJ (ip (FL k).1) 1 1 ps
  |.d9=>aJ (gi (FL k).1) 1 1 ps
  |.g_=>aJ (gY (FL k).1) 1 1 ps
  |_=>.bad,fun f ps h=>match f with
  |.M5=>hJ (gU (FL k).1 (FL k).2.1) 4 12 ps h
  |.J2=>hJ (gW (FL k).1 (FL k).2.1) 3 5 ps h
  |.u_=>hJ (fL (FL k).1 (FL k).2.1) 4 11 ps h
  |.D_=>hJ (gV (FL k).1) 2 4 ps h
  |.A_=>hJ (ei (FL k).1 (FL k).2.1) 5 9 ps h
  |.K5=>hJ (gT (FL k).1 (FL k).2.1) 6 17 ps h
  |_=>.bad,fun f ps=>match f with
  |.v5=>kQ (cZ (FL k).1 (FL k).2.2) 1 5 ps
  |.m8=>kQ (aN (FL k).1 (FL k).2.2) 1 3 ps
  |_=>.bad)
abbrev F(k:Nat):CC:=(FL k).1
abbrev L(k:Nat):DD:=(FL k).2.1
abbrev M(k:Nat):NN:=(FL k).2.2
def XP:Nat→Fx→List PV→JQ
 |0=>fun _ _=>.bad
 |j+1=>XO (F j)
theorem jg{k:Nat}:∀(f:Fn) qs v,F k f qs=.ok v→qs.length=(ij f).length:=by
 cases k with
 |zero=>intro f qs v h;cases h
 |succ k=>intro f qs v h;cases f with
  |law=>exact aH (f:=qx (FL k).1 (FL k).2.1) (np:=1) (n:=12) qs v h
  |u5=>exact aH (f:=eL (FL k).1) (np:=2) (n:=2) qs v h
  |q8=>exact aH (f:=eh (FL k).1) (np:=3) (n:=11) qs v h
  |unclear=>exact aH (f:=iJ (FL k).1) (np:=1) (n:=1) qs v h
  |L_=>exact aH (f:=gS (FL k).1) (np:=2) (n:=2) qs v h
  |Mj=>exact aH (f:=iL (FL k).1) (np:=1) (n:=7) qs v h
  |Mi=>exact aH (f:=iK (FL k).1) (np:=1) (n:=1) qs v h
  |K4=>exact aH (f:=lR (FL k).1) (np:=1) (n:=3) qs v h
  |j_=>exact aH (f:=mB (FL k).1) (np:=0) (n:=1) qs v h
  |z_=>exact aH (f:=bV (FL k).1 (FL k).2.2) (np:=2) (n:=5) qs v h
  |K7=>exact aH (f:=de (FL k).1 (FL k).2.2) (np:=1) (n:=7) qs v h
  |j7=>exact aH (f:=bu (FL k).1) (np:=2) (n:=6) qs v h
  |Mr=>exact aH (f:=jO (FL k).1) (np:=1) (n:=1) qs v h
  |G_=>exact aH (f:=cR (FL k).1) (np:=4) (n:=7) qs v h
  |Nx=>exact aH (f:=lQ (FL k).1) (np:=2) (n:=2) qs v h
  |N7=>exact aH (f:=dY (FL k).1 (FL k).2.2) (np:=2) (n:=3) qs v h
  |M6=>exact aH (f:=oO (FL k).1) (np:=1) (n:=2) qs v h
  |G9=>exact aH (f:=eM (FL k).1) (np:=2) (n:=5) qs v h
  |w6=>exact aH (f:=aM (FL k).1) (np:=2) (n:=5) qs v h
  |Pr=>exact aH (f:=jb (FL k).1) (np:=2) (n:=2) qs v h
  |K6=>exact aH (f:=kF (FL k).1) (np:=1) (n:=3) qs v h
  |u6=>exact aH (f:=dO (FL k).1) (np:=2) (n:=3) qs v h
  |J7=>exact aH (f:=cj (FL k).1) (np:=2) (n:=5) qs v h
  |o_=>exact aH (f:=cF (FL k).1) (np:=2) (n:=3) qs v h
  |begins=>exact aH (f:=iM (FL k).1) (np:=1) (n:=4) qs v h
  |j8=>exact aH (f:=cX (FL k).1) (np:=2) (n:=2) qs v h
  |n_=>exact aH (f:=jP (FL k).1) (np:=1) (n:=1) qs v h
  |j4=>exact aH (f:=ir (FL k).1) (np:=1) (n:=1) qs v h
  |i_=>exact aH (f:=iq (FL k).1) (np:=1) (n:=1) qs v h
  |k_=>exact aH (f:=jc (FL k).1) (np:=1) (n:=1) qs v h
  |o7=>exact aH (f:=jQ (FL k).1) (np:=1) (n:=1) qs v h
  |q_=>exact aH (f:=cE (FL k).1) (np:=2) (n:=3) qs v h
  |J5=>exact aH (f:=oN (FL k).1) (np:=1) (n:=1) qs v h
  |v8=>exact aH (f:=dZ (FL k).1) (np:=2) (n:=2) qs v h
  |p8=>exact aH (f:=bq (FL k).1) (np:=1) (n:=6) qs v h
  |signs=>exact aH (f:=rK (FL k).1) (np:=0) (n:=0) qs v h
  |G5=>exact aH (f:=jN (FL k).1) (np:=1) (n:=1) qs v h
  |h_=>exact aH (f:=io (FL k).1) (np:=1) (n:=1) qs v h
  |f9=>exact aH (f:=gj (FL k).1) (np:=1) (n:=1) qs v h
  |d8=>exact aH (f:=gh (FL k).1) (np:=1) (n:=1) qs v h
  |g8=>exact aH (f:=gX (FL k).1) (np:=1) (n:=1) qs v h
  |j5=>exact aH (f:=iu (FL k).1) (np:=1) (n:=1) qs v h
  |c7=>exact aH (f:=ip (FL k).1) (np:=1) (n:=1) qs v h
  |d9=>exact aH (f:=gi (FL k).1) (np:=1) (n:=1) qs v h
  |g_=>exact aH (f:=gY (FL k).1) (np:=1) (n:=1) qs v h
  |_=>cases h
theorem KR{k:Nat}:∀(f:Fn) qs hs v h',L k f qs hs=.ok v h'→qs.length=(ij f).length:=by
 cases k with
 |zero=>intro f qs hs v h' h;cases h
 |succ k=>intro f qs hs v h' h;cases f with
  |M5=>exact iD (f:=gU (FL k).1 (FL k).2.1) (np:=4) (n:=12) qs hs v h' h
  |J2=>exact iD (f:=gW (FL k).1 (FL k).2.1) (np:=3) (n:=5) qs hs v h' h
  |u_=>exact iD (f:=fL (FL k).1 (FL k).2.1) (np:=4) (n:=11) qs hs v h' h
  |D_=>exact iD (f:=gV (FL k).1) (np:=2) (n:=4) qs hs v h' h
  |A_=>exact iD (f:=ei (FL k).1 (FL k).2.1) (np:=5) (n:=9) qs hs v h' h
  |K5=>exact iD (f:=gT (FL k).1 (FL k).2.1) (np:=6) (n:=17) qs hs v h' h
  |_=>cases h
theorem KQ{k:Nat}:∀(f:Fn) qs v h',M k f qs=.ok v h'→qs.length=(ij f).length:=by
 cases k with
 |zero=>intro f qs v h' h;cases h
 |succ k=>intro f qs v h' h;cases f with
  |v5=>exact sw (f:=cZ (FL k).1 (FL k).2.2) (np:=1) (n:=5) qs v h' h
  |m8=>exact sw (f:=aN (FL k).1 (FL k).2.2) (np:=1) (n:=3) qs v h' h
  |_=>cases h
set_option genInjectivity false in
set_option genSizeOf false in
structure Sys(K:W.Frag)(mg:Str→Option Value) where
 adr:Fn→Addr
 fd:Fn→FuncData
 M8:Nat→Addr
 ok:∀f,T9 K (nV f) (oW f) (lX f) (adr f) (fd f)
 bi:∀f,ga K (fd f) (ij f) []
 m:∀f,vc f=true→mg (nV f)=some (.ref (adr f))
 n:∀i,mg (GQ i)=none
 PL:Value
 MN:mg "FIGURES"=some PL
 Q6:aX (.str (S [48,49,50,51,52,53,54,55,56,57])) PL
 NT:Value
 J4:mg "LINE_STOPS"=some NT
 Pk:aX (.str (S [10])) NT
 MP:Value
 G6:mg "NUMBER_SIGNS"=some MP
 Oe:aX (.str (S [45,48,49,50,51,52,53,54,55,56,57])) MP
 Nh:Value
 G8:mg "PLAIN_STOPS"=some Nh
 O7:aX (.str (S [10,38,60,62,124])) Nh
 Q_:Value
 OD:mg "SIGNS"=some Q_
 S8:aX (.str (S aF)) Q_
 NQ:Value
 J3:mg "WORD_SIGNS"=some NQ
 Pj:aX (.str (S nM)) NQ
 Pa:Addr
 Mg:mg "TEXT_END"=some (.ref Pa)
 Mf:EZ K Pa jl
 Qy:Cls K (M8 0)
 Oo:W.makesIn K (M8 0)=true
 Ow:W.findIn K (.ref (M8 0)) "__init__"=some (some (.builtin "object.__init__"))
 Ot:W.keepIn K (.ref (M8 0))=true
 S9:mg "Word"=some (.ref (M8 0))
 Og:jT K (M8 0) "begins" (adr .h_)
 Pn:jT K (M8 0) "ends" (adr .n_)
 N_:jT K (M8 0) "is_void" (adr .c7)
 O2:Cls K (M8 1)
 Mx:W.makesIn K (M8 1)=true
 MK:W.findIn K (.ref (M8 1)) "__init__"=some (some (.builtin "object.__init__"))
 MF:W.keepIn K (.ref (M8 1))=true
 Q8:mg "Number"=some (.ref (M8 1))
 Nv:jT K (M8 1) "begins" (adr .f9)
 Oi:jT K (M8 1) "ends" (adr .j4)
 Nb:jT K (M8 1) "is_void" (adr .c7)
 O1:Cls K (M8 2)
 Mw:W.makesIn K (M8 2)=true
 MJ:W.findIn K (.ref (M8 2)) "__init__"=some (some (.builtin "object.__init__"))
 Mz:W.keepIn K (.ref (M8 2))=true
 Q7:mg "Quoted"=some (.ref (M8 2))
 Nr:jT K (M8 2) "begins" (adr .d8)
 Oh:jT K (M8 2) "ends" (adr .i_)
 M_:jT K (M8 2) "is_void" (adr .c7)
 PB:Cls K (M8 3)
 Nq:W.makesIn K (M8 3)=true
 NK:W.findIn K (.ref (M8 3)) "__init__"=some (some (.builtin "object.__init__"))
 Ny:W.keepIn K (.ref (M8 3))=true
 RV:mg "Plain"=some (.ref (M8 3))
 Oa:jT K (M8 3) "begins" (adr .g8)
 O8:jT K (M8 3) "ends" (adr .k_)
 Nu:jT K (M8 3) "is_void" (adr .d9)
 Qz:Cls K (M8 4)
 Oq:W.makesIn K (M8 4)=true
 Oz:W.findIn K (.ref (M8 4)) "__init__"=some (some (.builtin "object.__init__"))
 Ou:W.keepIn K (.ref (M8 4))=true
 S_:mg "Line"=some (.ref (M8 4))
 Oj:jT K (M8 4) "begins" (adr .j5)
 Pq:jT K (M8 4) "ends" (adr .o7)
 Ob:jT K (M8 4) "is_void" (adr .g_)
def Sys.tab{K:W.Frag}{mg:Str→Option Value}(Y:Sys K mg):Tab
 |0=>some (Y.M8 0)
 |1=>some (Y.M8 1)
 |2=>some (Y.M8 2)
 |3=>some (Y.M8 3)
 |4=>some (Y.M8 4)
 |_=>none
section
variable(P:Program)(w:World){K:W.Frag}{mg:Str→Option Value}{base:Heap}
abbrev All(Y:Sys K mg)(base:Heap)(k:Nat):Prop:=∀f,eD P w K mg base Pg k (Y.adr f) (Y.fd f) (ij f) (TJ K Y.tab (ij f).length (F k f))
abbrev tZ(Y:Sys K mg)(base:Heap)(k:Nat):Prop:=∀f,eD P w K mg base Pg k (Y.adr f) (Y.fd f) (ij f) (U3 K Y.tab (ij f).length (L k f))
abbrev tY(Y:Sys K mg)(base:Heap)(k:Nat):Prop:=∀f,eD P w K mg base Pg k (Y.adr f) (Y.fd f) (ij f) (U0 K Y.tab (ij f).length (M k f))
theorem yT(Y:Sys K mg){k:Nat}{X:Cx}(G:All P w Y base k)(hp:X.prog=P:=by rfl)(hw:X.w=w:=by rfl)(hK:X.K=K:=by rfl)(hm:X.mg=mg:=by rfl)(hb:X.base=base:=by rfl):∀C fn,lL (F k) C=some fn→∀a,Y.tab C=some a→∃np,oS X Y.tab k "begins" a np fn:=by
 subst hp hw hK hm hb;intro C fn h a ha;unfold lL at h
 split at h
 ·cases h;cases ha;exact⟨_,Y.Qy,⟨_,_,_,rfl,Y.Og,G .h_,Y.bi .h_⟩,jg .h_⟩
 ·cases h;cases ha;exact⟨_,Y.O2,⟨_,_,_,rfl,Y.Nv,G .f9,Y.bi .f9⟩,jg .f9⟩
 ·cases h;cases ha;exact⟨_,Y.O1,⟨_,_,_,rfl,Y.Nr,G .d8,Y.bi .d8⟩,jg .d8⟩
 ·cases h;cases ha;exact⟨_,Y.PB,⟨_,_,_,rfl,Y.Oa,G .g8,Y.bi .g8⟩,jg .g8⟩
 ·cases h;cases ha;exact⟨_,Y.Qz,⟨_,_,_,rfl,Y.Oj,G .j5,Y.bi .j5⟩,jg .j5⟩
 ·cases h
theorem En(Y:Sys K mg){k:Nat}{X:Cx}(G:All P w Y base k)(hp:X.prog=P:=by rfl)(hw:X.w=w:=by rfl)(hK:X.K=K:=by rfl)(hm:X.mg=mg:=by rfl)(hb:X.base=base:=by rfl):∀C fn,ja (F k) C=some fn→∀a,Y.tab C=some a→∃np,oS X Y.tab k "ends" a np fn:=by
 subst hp hw hK hm hb;intro C fn h a ha;unfold ja at h
 split at h
 ·cases h;cases ha;exact⟨_,Y.Qy,⟨_,_,_,rfl,Y.Pn,G .n_,Y.bi .n_⟩,jg .n_⟩
 ·cases h;cases ha;exact⟨_,Y.O2,⟨_,_,_,rfl,Y.Oi,G .j4,Y.bi .j4⟩,jg .j4⟩
 ·cases h;cases ha;exact⟨_,Y.O1,⟨_,_,_,rfl,Y.Oh,G .i_,Y.bi .i_⟩,jg .i_⟩
 ·cases h;cases ha;exact⟨_,Y.PB,⟨_,_,_,rfl,Y.O8,G .k_,Y.bi .k_⟩,jg .k_⟩
 ·cases h;cases ha;exact⟨_,Y.Qz,⟨_,_,_,rfl,Y.Pq,G .o7,Y.bi .o7⟩,jg .o7⟩
 ·cases h
theorem vR(Y:Sys K mg){k:Nat}{X:Cx}(G:All P w Y base k)(hp:X.prog=P:=by rfl)(hw:X.w=w:=by rfl)(hK:X.K=K:=by rfl)(hm:X.mg=mg:=by rfl)(hb:X.base=base:=by rfl):∀C fn,mt (F k) C=some fn→∀a,Y.tab C=some a→∃np,oS X Y.tab k "is_void" a np fn:=by
 subst hp hw hK hm hb;intro C fn h a ha;unfold mt at h
 split at h
 ·cases h;cases ha;exact⟨_,Y.Qy,⟨_,_,_,rfl,Y.N_,G .c7,Y.bi .c7⟩,jg .c7⟩
 ·cases h;cases ha;exact⟨_,Y.O2,⟨_,_,_,rfl,Y.Nb,G .c7,Y.bi .c7⟩,jg .c7⟩
 ·cases h;cases ha;exact⟨_,Y.O1,⟨_,_,_,rfl,Y.M_,G .c7,Y.bi .c7⟩,jg .c7⟩
 ·cases h;cases ha;exact⟨_,Y.PB,⟨_,_,_,rfl,Y.Nu,G .d9,Y.bi .d9⟩,jg .d9⟩
 ·cases h;cases ha;exact⟨_,Y.Qz,⟨_,_,_,rfl,Y.Ob,G .g_,Y.bi .g_⟩,jg .g_⟩
 ·cases h
theorem sc:∀f,jd (uR f) (ij f) (aV (lX f)):=fun f=>by cases f<;>exact⟨rfl,rfl,rfl,by decide+kernel,rfl,by decide+kernel,by decide+kernel⟩
section
variable{X:Cx}{T:Tab}{Ew:VK}{e a b:Expr}{es:List Expr}{f g:Ex}{fs:Ax}{pos p0:Pos}
theorem rst{x:Str}{l:List Nat}{j pos}(e:x=S l:=by kernel_rfl):RE X T Ew (.Constant (.str x) j pos) (cK (.str l)):=FJ l e
theorem ra1(ha:RE X T Ew e f)(hs:starEach [e] X.env=(false,eval e X.env)::starEach [] X.env:=by rfl):RA X T Ew [e] (aa f ag):=mP ha ux hs
theorem rdi{keys:List (Option Expr)}{values:List Expr}{fs:List (Ex×Ex)}(h:VN X T Ew pos keys values fs)(QS:keys.all (·.isSome)=true:=by rfl)(hl:keys.length=values.length:=by rfl)(h0:keys≠ []:=by intro z;cases z)(T5:keys.length≤15:=by decide)(Vt:fs.length=keys.length:=by rfl):RE X T Ew (.Dict keys values pos) (mJ fs):=CF h QS hl h0 T5 Vt
def ZC(P:Program)(w:World)(K:W.Frag)(mg:Str→Option Value)(base:Heap)(A:Around)(T:Tab)(x:Str)(fn:List PV→Out):Prop:=∃k f fd ps,eD P w K mg base Pg k f fd ps (TJ K T ps.length fn)∧(∀qs v,fn qs=.ok v→qs.length=ps.length)∧dR k A∧mg x=some (.ref f)∧W.keepIn K (.ref f)=true∧ga K fd ps []
theorem zc{x:Str}{fn:List PV→Out}(c:ZC X.prog X.w X.K X.mg X.base X.A T x fn)(hg:Gl X x)(ha:RA X T Ew (e::es) fs)(Qh:nD0 x:=by decide)(he:sE0 X e es:=by rfl)(Mu:sP0 X es pos:=by rfl):RE X T Ew (.Call (.Name x p0) (e::es) [] pos) (aA fn fs):=by obtain⟨k,f,fd,ps,G,l,hr,m,kp,bi⟩:=c;exact CG G l hr hg m kp bi ha Qh he Mu
def ZL(P:Program)(w:World)(K:W.Frag)(mg:Str→Option Value)(base:Heap)(A:Around)(T:Tab)(x:Str)(fn:List PV→List PO→Res PV):Prop:=∃k f fd ps,eD P w K mg base Pg k f fd ps (U3 K T ps.length fn)∧(∀qs hs v h',fn qs hs=.ok v h'→qs.length=ps.length)∧dR k A∧mg x=some (.ref f)∧W.keepIn K (.ref f)=true∧ga K fd ps []
theorem zcL{x:Str}{fn:List PV→List PO→Res PV}(c:ZL X.prog X.w X.K X.mg X.base X.A T x fn)(hg:Gl X x)(ha:RA X T Ew (e::es) fs)(Qh:nD0 x:=by decide)(he:sE0 X e es:=by rfl)(Mu:sP0 X es pos:=by rfl):RE X T Ew (.Call (.Name x p0) (e::es) [] pos) (bp fn fs):=by obtain⟨k,f,fd,ps,G,l,hr,m,kp,bi⟩:=c;exact zR G l hr hg m kp bi ha Qh he Mu
def ZN(P:Program)(w:World)(K:W.Frag)(mg:Str→Option Value)(base:Heap)(A:Around)(T:Tab)(x:Str)(fn:List PV→Res PV):Prop:=∃k f fd ps,eD P w K mg base Pg k f fd ps (U0 K T ps.length fn)∧(∀qs v h',fn qs=.ok v h'→qs.length=ps.length)∧dR k A∧mg x=some (.ref f)∧W.keepIn K (.ref f)=true∧ga K fd ps []
theorem zcN{x:Str}{fn:List PV→Res PV}(c:ZN X.prog X.w X.K X.mg X.base X.A T x fn)(hg:Gl X x)(ha:RA X T Ew (e::es) fs)(Qh:nD0 x:=by decide)(he:sE0 X e es:=by rfl)(Mu:sP0 X es pos:=by rfl):RE X T Ew (.Call (.Name x p0) (e::es) [] pos) (eW fn fs):=by obtain⟨k,f,fd,ps,G,l,hr,m,kp,bi⟩:=c;exact zQ G l hr hg m kp bi ha Qh he Mu
theorem rdL{keys:List (Option Expr)}{values:List Expr}{fs:List (Ex×Ex)}(h:VN X T Ew pos keys values fs)(QS:keys.all (·.isSome)=true:=by rfl)(hl:keys.length=values.length:=by rfl)(h0:keys≠ []:=by intro z;cases z)(T5:keys.length≤15:=by decide)(Vt:fs.length=keys.length:=by rfl):RE X T Ew (.Dict keys values pos) (mx fs):=zP h QS hl h0 T5 Vt
theorem Yc{x:Str}{n:String}(hm:X.mg x=none)(hg:Gl X x:=by rfl)(hv:bootBuiltins x=some (.type n):=by decide+kernel)(hn:x≠"__name__":=by decide)(hd:nD0 x:=by decide):RE X T Ew (.Name x pos) (cK (.ty n)):=FG hg hm hv hn hd
theorem Xk{p1:Pos}{x:Str}{n:String}(hi:X.mg "isinstance"=none)(hm:X.mg x=none)(ha:RE X T Ew e f)(hg:Gl X "isinstance":=by rfl)(h1:Gl X x:=by rfl)(hv:bootBuiltins x=some (.type n):=by decide+kernel)(hn:x≠"__name__":=by decide)(hd:nD0 x:=by decide)(he:starEach [e,.Name x p1] X.env=(false,eval e X.env)::starEach [.Name x p1] X.env:=by rfl)(h2:starEach [.Name x p1] X.env=(false,eval (.Name x p1) X.env)::starEach [] X.env:=by rfl)(Mu:(backTo pos (starEach [.Name x p1] X.env)).any (·.1)=false:=by rfl):RE X T Ew (.Call (.Name "isinstance" p0) [e,.Name x p1] [] pos) (cN cr (aa f (aa (cK (.ty n)) ag))):=xZ hg hi (mP ha (mP (Yc hm h1 hv hn hd) ux h2) he) he Mu
theorem zl(hm:X.mg "len"=none)(ha:RE X T Ew e f)(hg:Gl X "len":=by rfl)(he:starEach [e] X.env=(false,eval e X.env)::starEach [] X.env:=by rfl)(Mu:(backTo pos (starEach [] X.env)).any (·.1)=false:=by rfl):RE X T Ew (.Call (.Name "len" p0) [e] [] pos) (cN gI (aa f ag)):=FU hg hm (ra1 ha he) he Mu
theorem req(hu:X.A.units+64<cLine)(ha:RE X T Ew a f)(hb:RE X T Ew b g)(hm:behindInMarks .Eq b=false:=by exact ik _):RE X T Ew (.Compare a [.Eq] [b] pos) (c2 m9 f g):=qL (uO hu) qM ha hb hm
theorem rte(hu:X.A.units+64<cLine)(ha:RE X T Ew a f)(hb:RE X T Ew b g)(hm:behindInMarks .Eq b=false:=by exact ik _):RT X T Ew (.Compare a [.Eq] [b] pos) (aB (c2 m9 f g)):=iQ (uO hu) qM ha hb hm
theorem KK{i:Nat}{x:Str}{pos':Pos}(hN:X.N.Nodup)(ha:RE X T Ew a f)(hi:X.N[i]? =some x:=by rfl)(hx:Loc X.env.scope x:=by first|exact .inl rfl|exact .inr rfl)(hs:swapsWith a (some (.Name x pos')) pos.line X.env=pure false:=by rfl)(hf:X.fn x=true∨X.env.scope.names.lookup x=some .local:=by first|exact .inl rfl|exact .inr rfl):RS X T Ew (.Assign [.Name x pos'] a pos) (aC i f):=Fv hN hi hx ha hs hf
theorem Kr{k:Nat}{A:Around}(Y:Sys K mg)(G:All P w Y base k)(hr:dR k A)(f:Fn)(hp:vc f=true):ZC P w K mg base A Y.tab (nV f) (F k f):=⟨_,_,_,_,G f,jg f,hr,Y.m f hp,(Y.ok f).kp,Y.bi f⟩
theorem HM{k:Nat}{A:Around}(Y:Sys K mg)(G:tZ P w Y base k)(hr:dR k A)(f:Fn)(hp:vc f=true):ZL P w K mg base A Y.tab (nV f) (L k f):=⟨_,_,_,_,G f,KR f,hr,Y.m f hp,(Y.ok f).kp,Y.bi f⟩
theorem HL{k:Nat}{A:Around}(Y:Sys K mg)(G:tY P w Y base k)(hr:dR k A)(f:Fn)(hp:vc f=true):ZN P w K mg base A Y.tab (nV f) (M k f):=⟨_,_,_,_,G f,KQ f,hr,Y.m f hp,(Y.ok f).kp,Y.bi f⟩
theorem zr(ha:RE X T Ew e f):Tj X T Ew [.Return (some e) pos] (aP f):=wj (Fy ha)
end
def bO(k:Nat):Fn→Sx
 |.law=>qx (F k) (L k)
 |.u5=>eL (F k)
 |.M5=>gU (F k) (L k)
 |.q8=>eh (F k)
 |.J2=>gW (F k) (L k)
 |.unclear=>iJ (F k)
 |.L_=>gS (F k)
 |.Mj=>iL (F k)
 |.u_=>fL (F k) (L k)
 |.D_=>gV (F k)
 |.Mi=>iK (F k)
 |.K4=>lR (F k)
 |.j_=>mB (F k)
 |.z_=>bV (F k) (M k)
 |.K7=>de (F k) (M k)
 |.j7=>bu (F k)
 |.Mr=>jO (F k)
 |.G_=>cR (F k)
 |.A_=>ei (F k) (L k)
 |.K5=>gT (F k) (L k)
 |.Nx=>lQ (F k)
 |.v5=>cZ (F k) (M k)
 |.N7=>dY (F k) (M k)
 |.M6=>oO (F k)
 |.G9=>eM (F k)
 |.w6=>aM (F k)
 |.Pr=>jb (F k)
 |.m8=>aN (F k) (M k)
 |.K6=>kF (F k)
 |.u6=>dO (F k)
 |.J7=>cj (F k)
 |.o_=>cF (F k)
 |.begins=>iM (F k)
 |.j8=>cX (F k)
 |.n_=>jP (F k)
 |.j4=>ir (F k)
 |.i_=>iq (F k)
 |.k_=>jc (F k)
 |.o7=>jQ (F k)
 |.q_=>cE (F k)
 |.J5=>oN (F k)
 |.v8=>dZ (F k)
 |.p8=>bq (F k)
 |.signs=>rK (F k)
 |.G5=>jN (F k)
 |.h_=>io (F k)
 |.f9=>gj (F k)
 |.d8=>gh (F k)
 |.g8=>gX (F k)
 |.j5=>iu (F k)
 |.c7=>ip (F k)
 |.d9=>gi (F k)
 |.g_=>gY (F k)
theorem ck{N:List Str}{TV scope:Scope}{j6:List Nat}{x:Str}{M:List Str}(_:M=x::j6.map fun i=>N.getD i "")(h:rn N TV scope j6 x M=true):hG N TV scope j6 x M:=hG.of h
def RR(Y:Sys K mg)(base:Heap)(k:Nat)(f:Fn)(b:Sx):Prop:=∀(K8:Value)(A:Around)(outer:List Env)(s:Shared)(H:Hp)(E:XK)(fa:Addr),dR k (A.deeper (envOfC (oW f) (aV (lX f)) s.heap.objs.size fa K8))→Tj (oG Pg P w K mg base (uR f) (oW f) (aV (lX f)) fa K8 A outer s H E).Ur Y.tab (fun _ _=>False) (eg (lX f)) b
theorem fp(Y:Sys K mg){k:Nat}{f:Fn}{b:Sx}(h:RR P w Y base k f b):eD P w K mg base Pg (k+1) (Y.adr f) (Y.fd f) (ij f) (TJ K Y.tab (ij f).length (aJ b (ij f).length (uR f).length)):=DR (Y.ok f) (sc f) fun K8 A outer s H E hr=>h K8 A outer s H E _ hr
theorem fl(Y:Sys K mg){k:Nat}{f:Fn}{b:Sx}(h:RR P w Y base k f b):eD P w K mg base Pg (k+1) (Y.adr f) (Y.fd f) (ij f) (U3 K Y.tab (ij f).length (hJ b (ij f).length (uR f).length)):=DS (Y.ok f) (sc f) fun K8 A outer s H E hr=>h K8 A outer s H E _ hr
theorem fnw(Y:Sys K mg){k:Nat}{f:Fn}{b:Sx}(h:RR P w Y base k f b):eD P w K mg base Pg (k+1) (Y.adr f) (Y.fd f) (ij f) (U0 K Y.tab (ij f).length (kQ b (ij f).length (uR f).length)):=Hn (Y.ok f) (sc f) fun K8 A outer s H E hr=>h K8 A outer s H E _ hr
section
variable(Y:Sys K mg){k:Nat}(G:All P w Y base k)(GL:tZ P w Y base k)(GN:tY P w Y base k)
include G GL GN
theorem rz{f:Fn}{b:Sx}(h:∀(K8:Value)(A:Around)(outer:List Env)(s:Shared)(H:Hp)(E:XK)(fa:Addr),dR k (A.deeper (envOfC (oW f) (aV (lX f)) s.heap.objs.size fa K8))→(A.deeper (envOfC (oW f) (aV (lX f)) s.heap.objs.size fa K8)).units+64<cLine→(uR f).Nodup→(∀i,mg (GQ i)=none)→(∀(g:Fn),vc g=true→ZC P w K mg base (A.deeper (envOfC (oW f) (aV (lX f)) s.heap.objs.size fa K8)) Y.tab (nV g) (F k g))→(∀(g:Fn),vc g=true→ZL P w K mg base (A.deeper (envOfC (oW f) (aV (lX f)) s.heap.objs.size fa K8)) Y.tab (nV g) (L k g))→(∀(g:Fn),vc g=true→ZN P w K mg base (A.deeper (envOfC (oW f) (aV (lX f)) s.heap.objs.size fa K8)) Y.tab (nV g) (M k g))→Tj (oG Pg P w K mg base (uR f) (oW f) (aV (lX f)) fa K8 A outer s H E).Ur Y.tab (fun _ _=>False) (eg (lX f)) b):RR P w Y base k f b:=fun K8 A outer s H E fa hr=>h K8 A outer s H E fa hr hr.units (sc f).nd Y.n (Kr P w Y G hr) (HM P w Y GL hr) (HL P w Y GN hr)
theorem rr:∀f,RR P w Y base k f (bO k f):=fun f=>by
 cases f<;>exact rz P w Y G GL GN fun _ _ _ _ _ _ _ hr hu hN n c d m=>by
  unfold bO
  (repeat' first
   |exact rv _
   |exact FV
   |refine ra1 ?_
   |refine mP ?_ ?_
   |refine zy ?_ ?_
   |refine Iw hu ?_ ?_
   |exact rst
   |refine zr ?_
   |refine FH ?_
   |refine KK hN ?_
   |refine Ir ?_ ?_ ?_
   |refine zc (c _ rfl) rfl ?_
   |exact Ci
   |refine Ga ?_ ?_
   |refine FR ?_ ?_
   |refine wj ?_
   |refine FT ?_
   |refine rte hu ?_ ?_
   |refine CD ?_ ?_
   |exact Ct hN rfl (Or.inl rfl)
   |exact Iy
   |refine zH ?_ ?_
   |exact FO
   |exact ux
   |refine Ck ?_
   |refine Ft ?_
   |refine Co ?_
   |refine zcL (d _ rfl) rfl ?_
   |refine zG ?_
   |refine xY ?_ ?_ ?_
   |refine Fz PassesOwn.never rfl ?_ ?_ ?_
   |refine zw ?_ ?_
   |refine zS Fd PySem.F.plainAttrs_list PySem.F.slot_list_append PySem.F.type_list_append yu sH ?_ ?_
   |exact Cp
   |refine Cg ?_
   |refine FQ ?_ ?_
   |exact sD (G .j_) (jg .j_) hr rfl (Y.m .j_ rfl) (Y.ok .j_).kp (Y.bi .j_)
   |exact FE
   |exact Cs
   |refine FC ?_
   |refine xW rfl (n .range) ?_
   |refine Fu ?_
   |refine iQ (GH hu) CS ?_ ?_ (ik _)
   |refine zE ?_ ?_ ?_
   |refine req hu ?_ ?_
   |refine iQ (AI hu) wv ?_ ?_ (by with_unfolding_all rfl)
   |refine FD ?_
   |refine Cz ?_
   |refine iQ Dl uD ?_ ?_ (ik _)
   |refine zl (n .len) ?_
   |refine zcN (m _ rfl) rfl ?_
   |refine FM ?_
   |refine zS ud PySem.F.plainAttrs_str PySem.F.slot_str_join PySem.F.type_str_join Dv ya ?_ ?_
   |refine FA ?_ ?_
   |refine Fr ?_
   |refine Ey ?_ ?_
   |refine FY ?_ ?_
   |refine FF ?_ ?_ ⟨rfl,rfl,rfl,rfl⟩
   |refine Cj hu ?_ ?_ ?_
   |exact Cl
   |refine iQ (GM hu) Ai ?_ ?_ (ik _)
   |refine zC ?_ ?_ ?_
   |refine CH ?_ ?_
   |refine Cq ?_
   |refine iQ (yj hu) uB ?_ ?_ (by with_unfolding_all rfl)
   |refine Cw ?_ ?_ ?_ ⟨rfl,rfl,rfl,rfl⟩
   |refine Ix ?_
   |refine rdi ?_
   |refine FN ?_
   |refine iQ EH kU ?_ ?_ (ik _)
   |refine CA rfl (n .int) ?_
   |refine FI ?_ ?_
   |refine Cr rfl (n .enumerate) ?_
   |refine FZ rfl (n .all) ?_
   |refine FP ?_
   |refine zK rfl rfl (n .list) ?_
   |refine qL (AI hu) wv ?_ ?_ (by with_unfolding_all rfl)
   |exact sD (G .signs) (jg .signs) hr rfl (Y.m .signs rfl) (Y.ok .signs).kp (Y.bi .signs)
   |refine iQ GK CU ?_ ?_ (ik _)
   |refine zJ rfl (n .tuple) ?_
   |refine Xk (n .isinstance) (n .list) ?_
   |refine Xk (n .isinstance) (n .tuple) ?_
   |refine Xk (n .isinstance) (n .dict) ?_
   |refine xX rfl rfl (n .sorted) ?_
   |refine Xk (n .isinstance) (n .bool) ?_
   |refine Iv ?_ ?_
   |exact Cy
   |refine FB rfl (n .reversed) ?_
   |refine zM ?_ ?_ ?_
   |exact iE rfl Y.J3 Y.Pj
   |exact iE rfl Y.G8 Y.O7
   |exact iE rfl Y.J4 Y.Pk
   |refine iQ EG kU ?_ ?_ (ik _)
   |exact zN rfl Y.Mg Y.Mf
   |exact Yc (n .list)
   |exact Yc (n .tuple)
   |refine zL rfl (n .isinstance) ?_
   |refine cO (M:=["_law_k","_law_found","_law_due"]) _ rfl (ck (by rfl) (by kernel_rfl)) ?_ (fun _ _ _ _ _=>?_) (fun _ _ _ _ _=>?_)
   |refine cO (M:=["_law_key","_law_found","_law_due"]) _ rfl (ck (by rfl) (by kernel_rfl)) ?_ (fun _ _ _ _ _=>?_) (fun _ _ _ _ _=>?_)
   |refine cO (M:=["_law_j","_law_some","_law_n"]) _ rfl (ck (by rfl) (by kernel_rfl)) ?_ (fun _ _ _ _ _=>?_) (fun _ _ _ _ _=>?_)
   |refine Cv rfl (n .str) ?_
   |refine qL EG kU ?_ ?_ (ik _)
   |refine qL EH kU ?_ ?_ (ik _)
   |refine ur (M:=["_law_one_here","_law_kind"]) _ rfl (ck (by rfl) (by kernel_rfl)) ?_ (fun _ _ _ _ _=>?_) (fun _ _ _ _ _=>?_) (iy:=8) hN rfl rfl (by with_unfolding_all rfl)
   |refine FS rfl (n .max) ?_
   |refine cO (M:=["_law_mark","_law_node"]) _ rfl (ck (by rfl) (by kernel_rfl)) ?_ (fun _ _ _ _ _=>?_) (fun _ _ _ _ _=>?_)
   |refine cO (M:=["_law_mark","_law_after_here"]) _ rfl (ck (by rfl) (by kernel_rfl)) ?_ (fun _ _ _ _ _=>?_) (fun _ _ _ _ _=>?_)
   |refine cO (M:=["_law_nodes_here","_law_after_here"]) _ rfl (ck (by rfl) (by kernel_rfl)) ?_ (fun _ _ _ _ _=>?_) (fun _ _ _ _ _=>?_)
   |refine cO (M:=["_law_mark","_law_sides"]) _ rfl (ck (by rfl) (by kernel_rfl)) ?_ (fun _ _ _ _ _=>?_) (fun _ _ _ _ _=>?_)
   |refine cO (M:=["_law_k","_law_n"]) _ rfl (ck (by rfl) (by kernel_rfl)) ?_ (fun _ _ _ _ _=>?_) (fun _ _ _ _ _=>?_)
   |refine CB hu ?_ ?_ ?_ ⟨rfl,rfl,rfl,rfl⟩
   |refine sC (M:=["_law_k","_law_cells","_law_spot","_law_at","_law_deep"]) _ rfl (ck (by rfl) (by kernel_rfl)) ?_ (fun _ _ _ _ _=>?_) (fun _ _ _ _ _=>?_)
   |refine sC (M:=["_law_k","_law_sides","_law_mark"]) _ rfl (ck (by rfl) (by kernel_rfl)) ?_ (fun _ _ _ _ _=>?_) (fun _ _ _ _ _=>?_)
   |refine sx (M:=["_law_one_here","_law_name"]) _ rfl (ck (by rfl) (by kernel_rfl)) ?_ (fun _ _ _ _ _=>?_) (fun _ _ _ _ _=>?_) (iy:=11) hN rfl rfl (by with_unfolding_all rfl)
   |refine CI ?_ ?_
   |refine cO (M:=["_law_k","_law_path","_law_names_here"]) _ rfl (ck (by rfl) (by kernel_rfl)) ?_ (fun _ _ _ _ _=>?_) (fun _ _ _ _ _=>?_)
   |refine cO (M:=["_law_mark","_law_taken"]) _ rfl (ck (by rfl) (by kernel_rfl)) ?_ (fun _ _ _ _ _=>?_) (fun _ _ _ _ _=>?_)
   |refine uw rfl rfl (n .list) rfl (n .reversed) ?_
   |refine zS ud PySem.F.plainAttrs_str PySem.F.slot_str_find PySem.F.type_str_find Dw yb ?_ ?_
   |refine rdL ?_
   |refine cO (M:=["_law_mark"]) _ rfl (ck (by rfl) (by kernel_rfl)) ?_ (fun _ _ _ _ _=>?_) (fun _ _ _ _ _=>?_)
   |refine zO rfl rfl (n .dict) ?_
   |refine FW ud PySem.F.plainAttrs_str PySem.F.slot_str_upper PySem.F.type_str_upper AQ uz ?_
   |refine cO (M:=["_law_mark","_law_way_here"]) _ rfl (ck (by rfl) (by kernel_rfl)) ?_ (fun _ _ _ _ _=>?_) (fun _ _ _ _ _=>?_)
   |refine nK (En P w Y G) ?_ hr
   |refine cO (M:=["sign","ends"]) _ rfl (ck (by rfl) (by kernel_rfl)) ?_ (fun _ _ _ _ _=>?_) (fun _ _ _ _ _=>?_)
   |refine cO (M:=["sign","one","other"]) _ rfl (ck (by rfl) (by kernel_rfl)) ?_ (fun _ _ _ _ _=>?_) (fun _ _ _ _ _=>?_)
   |exact iE rfl Y.MN Y.Q6
   |exact jv (Cn:=0) rfl Y.Oo Y.Ow Y.Ot rfl Y.S9
   |exact jv (Cn:=1) rfl Y.Mx Y.MK Y.MF rfl Y.Q8
   |exact jv (Cn:=2) rfl Y.Mw Y.MJ Y.Mz rfl Y.Q7
   |exact jv (Cn:=3) rfl Y.Nq Y.NK Y.Ny rfl Y.RV
   |exact jv (Cn:=4) rfl Y.Oq Y.Oz Y.Ou rfl Y.S_
   |exact zD
   |refine cO (M:=["sign","other"]) _ rfl (ck (by rfl) (by kernel_rfl)) ?_ (fun _ _ _ _ _=>?_) (fun _ _ _ _ _=>?_)
   |refine FX rfl (n .any) ?_
   |refine nK (yT P w Y G) ?_ hr
   |refine nK (vR P w Y G) ?_ hr
   |exact iE rfl Y.OD Y.S8
   |refine cO (M:=["sign","left_out"]) _ rfl (ck (by rfl) (by kernel_rfl)) ?_ (fun _ _ _ _ _=>?_) (fun _ _ _ _ _=>?_)
   |exact iE rfl Y.G6 Y.Oe
   |refine RW.rt (zw ?_ ?_)
   |refine RW.rt (Ey ?_ ?_))
end
theorem Ei(Y:Sys K mg):All P w Y base 0:=fun f=>⟨fun vs H Q E h=>(by obtain⟨_,_,_,_,_,_,e,_⟩:=h;cases e),fun A outer s H args us vs Q E _ _ _ _ h=>(by obtain⟨_,_,_,_,_,_,e,_⟩:=h;cases e)⟩
theorem Z2(Y:Sys K mg){k:Nat}{ad:Addr}{fd:FuncData}{ps:List Str}{n:Nat}:eD P w K mg base Pg k ad fd ps (U3 K Y.tab n fun _ _=>.bad):=⟨fun vs H Q E h=>by obtain⟨_,_,_,_,_,_,_,e⟩:=h;exact e.elim,fun A outer s H args us vs Q E _ _ _ _ h=>by obtain⟨_,_,_,_,_,_,_,e⟩:=h;exact e.elim⟩
theorem Z1(Y:Sys K mg){k:Nat}{ad:Addr}{fd:FuncData}{ps:List Str}{n:Nat}:eD P w K mg base Pg k ad fd ps (U0 K Y.tab n fun _=>.bad):=⟨fun vs H Q E h=>by obtain⟨_,_,_,_,_,e⟩:=h;exact e.elim,fun A outer s H args us vs Q E _ _ _ _ h=>by obtain⟨_,_,_,_,_,e⟩:=h;exact e.elim⟩
theorem BG(Y:Sys K mg):tY P w Y base 0:=fun f=>Z1 P w Y
theorem BH(Y:Sys K mg):tZ P w Y base 0:=fun f=>Z2 P w Y
theorem BF(Y:Sys K mg){k:Nat}(G:All P w Y base k)(GL:tZ P w Y base k)(GN:tY P w Y base k):All P w Y base (k+1):=fun f=>by
  cases f<;>first
   |exact fp P w Y (rr P w Y G GL GN _)
   |exact⟨fun vs H Q E h=>(by obtain⟨_,_,_,_,_,_,e,_⟩:=h;cases e),fun A outer s H args us vs Q E _ _ _ _ h=>(by obtain⟨_,_,_,_,_,_,e,_⟩:=h;cases e)⟩
theorem yS(Y:Sys K mg){k:Nat}(G:All P w Y base k)(GL:tZ P w Y base k)(GN:tY P w Y base k):tZ P w Y base (k+1):=fun f=>by
  cases f<;>first
   |exact fl P w Y (rr P w Y G GL GN _)
   |exact Z2 P w Y
theorem yR(Y:Sys K mg){k:Nat}(G:All P w Y base k)(GL:tZ P w Y base k)(GN:tY P w Y base k):tY P w Y base (k+1):=fun f=>by
  cases f<;>first
   |exact fnw P w Y (rr P w Y G GL GN _)
   |exact Z1 P w Y
theorem fT(Y:Sys K mg):∀k,All P w Y base k∧tZ P w Y base k∧tY P w Y base k
 |0=>⟨Ei P w Y,BH P w Y,BG P w Y⟩
 |k+1=>⟨BF P w Y (fT Y k).1 (fT Y k).2.1 (fT Y k).2.2,yS P w Y (fT Y k).1 (fT Y k).2.1 (fT Y k).2.2,yR P w Y (fT Y k).1 (fT Y k).2.1 (fT Y k).2.2⟩
theorem vN(Y:Sys K mg)(k:Nat):All P w Y base k:=(fT P w Y k).1
end
def Zk(K:W.Frag)(C:Nat→Addr):Fn→Addr→Prop
 |.n_,a=>W.findIn K (.ref (C 0)) "ends"=some (some (.ref a))∧W.isFn K (.ref a)=true∧W.keepIn K (.ref a)=true
 |.j4,a=>W.findIn K (.ref (C 1)) "ends"=some (some (.ref a))∧W.isFn K (.ref a)=true∧W.keepIn K (.ref a)=true
 |.i_,a=>W.findIn K (.ref (C 2)) "ends"=some (some (.ref a))∧W.isFn K (.ref a)=true∧W.keepIn K (.ref a)=true
 |.k_,a=>W.findIn K (.ref (C 3)) "ends"=some (some (.ref a))∧W.isFn K (.ref a)=true∧W.keepIn K (.ref a)=true
 |.o7,a=>W.findIn K (.ref (C 4)) "ends"=some (some (.ref a))∧W.isFn K (.ref a)=true∧W.keepIn K (.ref a)=true
 |.h_,a=>W.findIn K (.ref (C 0)) "begins"=some (some (.ref a))∧W.isFn K (.ref a)=true∧W.keepIn K (.ref a)=true
 |.f9,a=>W.findIn K (.ref (C 1)) "begins"=some (some (.ref a))∧W.isFn K (.ref a)=true∧W.keepIn K (.ref a)=true
 |.d8,a=>W.findIn K (.ref (C 2)) "begins"=some (some (.ref a))∧W.isFn K (.ref a)=true∧W.keepIn K (.ref a)=true
 |.g8,a=>W.findIn K (.ref (C 3)) "begins"=some (some (.ref a))∧W.isFn K (.ref a)=true∧W.keepIn K (.ref a)=true
 |.j5,a=>W.findIn K (.ref (C 4)) "begins"=some (some (.ref a))∧W.isFn K (.ref a)=true∧W.keepIn K (.ref a)=true
 |.c7,a=>W.findIn K (.ref (C 0)) "is_void"=some (some (.ref a))∧W.findIn K (.ref (C 1)) "is_void"=some (some (.ref a))∧W.findIn K (.ref (C 2)) "is_void"=some (some (.ref a))∧W.isFn K (.ref a)=true∧W.keepIn K (.ref a)=true
 |.d9,a=>W.findIn K (.ref (C 3)) "is_void"=some (some (.ref a))∧W.isFn K (.ref a)=true∧W.keepIn K (.ref a)=true
 |.g_,a=>W.findIn K (.ref (C 4)) "is_void"=some (some (.ref a))∧W.isFn K (.ref a)=true∧W.keepIn K (.ref a)=true
 |f,a=>W.nsIn K mainGlobals (nV f)=some (some (.ref a))
theorem ZM{us:List Value}(h:us.length=0):us= []:=List.eq_nil_of_length_eq_zero h
theorem Vh{n:Nat}{us:List Value}(h:us.length=n+1):∃a r,us=a::r∧r.length=n:=by
 cases us with
 |nil=>cases h
 |cons a r=>exact⟨a,r,rfl,by simpa using h⟩
theorem ZK{us:List Value}(h:us.length=1):∃a,us= [a]:=by obtain⟨a,r,rfl,z⟩:=Vh h;obtain rfl:=ZM z;exact⟨a,rfl⟩
theorem ZJ{us:List Value}(h:us.length=2):∃a b,us= [a,b]:=by obtain⟨a,r,rfl,z⟩:=Vh h;obtain⟨b,rfl⟩:=ZK z;exact⟨a,b,rfl⟩
theorem ZG{us:List Value}(h:us.length=3):∃a b c,us= [a,b,c]:=by obtain⟨a,r,rfl,z⟩:=Vh h;obtain⟨b,c,rfl⟩:=ZJ z;exact⟨a,b,c,rfl⟩
theorem ZF{us:List Value}(h:us.length=4):∃a b c d,us= [a,b,c,d]:=by obtain⟨a,r,rfl,z⟩:=Vh h;obtain⟨b,c,d,rfl⟩:=ZG z;exact⟨a,b,c,d,rfl⟩
theorem ZD{us:List Value}(h:us.length=5):∃a b c d e,us= [a,b,c,d,e]:=by obtain⟨a,r,rfl,z⟩:=Vh h;obtain⟨b,c,d,e,rfl⟩:=ZF z;exact⟨a,b,c,d,e,rfl⟩
theorem Zz{us:List Value}(h:us.length=6):∃a b c d e f,us= [a,b,c,d,e,f]:=by obtain⟨a,r,rfl,z⟩:=Vh h;obtain⟨b,c,d,e,f,rfl⟩:=ZD z;exact⟨a,b,c,d,e,f,rfl⟩
theorem us7{us:List Value}(h:us.length=7):∃a b c d e f g,us= [a,b,c,d,e,f,g]:=by obtain⟨a,r,rfl,z⟩:=Vh h;obtain⟨b,c,d,e,f,g,rfl⟩:=Zz z;exact⟨a,b,c,d,e,f,g,rfl⟩
theorem fq{K:W.Frag}{Ad:Addr→Prop}{nm ql:Str}{st:Stmt}{ps:List Str}{f:Addr}{od an:Option Addr}{sl:Array (Option Value)}{oc kV dc pm cd ct:Value}(a:Ad f)(l:K.lookup f=some ⟨oc,od,.func (W.fnOf nm ql (jY st) (eg st) (aV st) .none kV dc pm an cd ct),sl⟩)(c:W.codeIn K cd ql=true)(k:W.keepIn K (.ref f)=true)(b:∀(kV doc pm:Value)(an:Option Addr)(K8 ct:Value)(us:List Value),us.length=ps.length→bindArgs (W.fnOf nm ql (jY st) (eg st) (aV st) .none kV doc pm an K8 ct) ⟨us,[]⟩=pure (ps.zip us)):∃a fd,Ad a∧T9 K nm ql st a fd∧ga K fd ps []:=⟨f,_,a,Bj l c k,(Bj l c k).binds b⟩
theorem Hy{l:W.OpenLaw}{w:World}{K:W.Frag}{h:Heap}{mg:Str→Option Value}{fa:Addr}(YK:∀ns:List Int,ns.length≤63→F 140 .law [.Mv (ns.map PV.int)]=.ok (.bl true))(X:K.In h)(G:h.Ns mainGlobals mg)(hfa:mg "law"=some (.ref fa))
  {Nj:Addr}
  {J9:Addr}
  {J8:Addr}
  {Ml:Addr}
  {Nk:Addr}
  {PX:Tok}
  {N6:Tok}
  {M4:Tok}
  {Ni:Tok}
  {Rc:Tok}
  {NZ:Tok}
  {Pb:Addr} {SJ:Nat} {RN:Array (Option Value)} {RQ:Option Addr} {N5:Tok}
  (Rw:W.nsIn K mainGlobals "Word"=some (some (.ref Nj)))
  (Rm:W.plainGet K Nj Str.empty=true)
  (Rq:W.hasDictIn K Nj=true)
  (Rj:W.plainOver K Nj=true)
  (Rf:W.findIn K (.ref Nj) "__setattr__"=some (some (.builtin "object.__setattr__")))
  (Oo:W.makesIn K Nj=true)
  (Ow:W.findIn K (.ref Nj) "__init__"=some (some (.builtin "object.__init__")))
  (Ot:W.keepIn K (.ref Nj)=true)
  (Qn:W.nsIn K mainGlobals "Number"=some (some (.ref J9)))
  (Qf:W.plainGet K J9 Str.empty=true)
  (Qj:W.hasDictIn K J9=true)
  (Qd:W.plainOver K J9=true)
  (Qa:W.findIn K (.ref J9) "__setattr__"=some (some (.builtin "object.__setattr__")))
  (Mx:W.makesIn K J9=true)
  (MK:W.findIn K (.ref J9) "__init__"=some (some (.builtin "object.__init__")))
  (MF:W.keepIn K (.ref J9)=true)
  (Qm:W.nsIn K mainGlobals "Quoted"=some (some (.ref J8)))
  (Qe:W.plainGet K J8 Str.empty=true)
  (Qi:W.hasDictIn K J8=true)
  (Qc:W.plainOver K J8=true)
  (P_:W.findIn K (.ref J8) "__setattr__"=some (some (.builtin "object.__setattr__")))
  (Mw:W.makesIn K J8=true)
  (MJ:W.findIn K (.ref J8) "__init__"=some (some (.builtin "object.__init__")))
  (Mz:W.keepIn K (.ref J8)=true)
  (QW:W.nsIn K mainGlobals "Plain"=some (some (.ref Ml)))
  (QG:W.plainGet K Ml Str.empty=true)
  (QL:W.hasDictIn K Ml=true)
  (QF:W.plainOver K Ml=true)
  (QD:W.findIn K (.ref Ml) "__setattr__"=some (some (.builtin "object.__setattr__")))
  (Nq:W.makesIn K Ml=true)
  (NK:W.findIn K (.ref Ml) "__init__"=some (some (.builtin "object.__init__")))
  (Ny:W.keepIn K (.ref Ml)=true)
  (Rx:W.nsIn K mainGlobals "Line"=some (some (.ref Nk)))
  (Rn:W.plainGet K Nk Str.empty=true)
  (Rr:W.hasDictIn K Nk=true)
  (Rk:W.plainOver K Nk=true)
  (Rg:W.findIn K (.ref Nk) "__setattr__"=some (some (.builtin "object.__setattr__")))
  (Oq:W.makesIn K Nk=true)
  (Oz:W.findIn K (.ref Nk) "__init__"=some (some (.builtin "object.__init__")))
  (Ou:W.keepIn K (.ref Nk)=true)
  (hf:∀f:Fn,∃a fd,Zk K (fun i=> [Nj,J9,J8,Ml,Nk].getD i 0) f a∧T9 K (nV f) (oW f) (lX f) a fd∧ga K fd (ij f) [])
  (MN:W.nsIn K mainGlobals "FIGURES"=some (some (.str "0123456789" PX)))
  (J4:W.nsIn K mainGlobals "LINE_STOPS"=some (some (.str "\n" N6)))
  (G6:W.nsIn K mainGlobals "NUMBER_SIGNS"=some (some (.str "-0123456789" M4)))
  (G8:W.nsIn K mainGlobals "PLAIN_STOPS"=some (some (.str "\n&<>|" Ni)))
  (OD:W.nsIn K mainGlobals "SIGNS"=some (some (.str "\n !\"#$&'()*+,-./0123456789:;<=>?@ABCDEFGHIJKLMNOPQRSTUVWXYZ[\\]^_`abcdefghijklmnopqrstuvwxyz{|}~" Rc)))
  (J3:W.nsIn K mainGlobals "WORD_SIGNS"=some (some (.str "0123456789ABCDEFGHIJKLMNOPQRSTUVWXYZabcdefghijklmnopqrstuvwxyz" NZ)))
  (Mg:W.nsIn K mainGlobals "TEXT_END"=some (some (.ref Pb)))
  (Mf:K.lookup Pb=some ⟨.type "tuple",RQ,.seq #[.str "" N5,.bool true] SJ,RN⟩)
  (hn:∀i:Nt,W.nsIn K mainGlobals (GQ i)=some none):
  ∃fd:FuncData,(∀(s:Shared)(v:Value),BindsTo s fd ⟨[v],[]⟩ [("_law_script",v)])∧∀base:Heap,K.In base→base.Ns mainGlobals mg→eD l.prog w K mg base Pg 140 fa fd ["_law_script"] (wc K):=by
 let Y:Sys K mg:={
  adr:=fun f=>(hf f).choose
  fd:=fun f=>(hf f).choose_spec.choose
  ok:=fun f=>(hf f).choose_spec.choose_spec.2.1
  bi:=fun f=>(hf f).choose_spec.choose_spec.2.2
  m:=fun f hp=>W.mg_of X G (by have q:=(hf f).choose_spec.choose_spec.1;cases f<;>first|exact q|cases hp)
  n:=fun i=>W.mg_none_of X G (hn i)
  M8:=fun i=>match i with|0=>Nj|1=>J9|2=>J8|3=>Ml|4=>Nk|_=>0
  PL:=_
  MN:=W.mg_of X G MN
  Q6:=⟨PX,by exact congrArg (fun z=>Value.str z PX) (by kernel_rfl)⟩
  NT:=_
  J4:=W.mg_of X G J4
  Pk:=⟨N6,by exact congrArg (fun z=>Value.str z N6) (by kernel_rfl)⟩
  MP:=_
  G6:=W.mg_of X G G6
  Oe:=⟨M4,by exact congrArg (fun z=>Value.str z M4) (by kernel_rfl)⟩
  Nh:=_
  G8:=W.mg_of X G G8
  O7:=⟨Ni,by exact congrArg (fun z=>Value.str z Ni) (by kernel_rfl)⟩
  Q_:=_
  OD:=W.mg_of X G OD
  S8:=⟨Rc,by exact congrArg (fun z=>Value.str z Rc) (by kernel_rfl)⟩
  NQ:=_
  J3:=W.mg_of X G J3
  Pj:=⟨NZ,by exact congrArg (fun z=>Value.str z NZ) (by kernel_rfl)⟩
  Pa:=Pb
  Mg:=W.mg_of X G Mg
  Mf:=⟨_,_,_,[.str (S []),.bl true],Mf,rfl,rfl,by show 2≤sizeLine;decide,(.cons ⟨N5,congrArg (fun z=>Value.str z N5) (by kernel_rfl)⟩ (.cons rfl .nil)),fun _ _ _=>(.cons (.str _) (.cons (.bl _) .nil))⟩
  Qy:=⟨Rm,Rq,Rj,Rf⟩
  Oo:=Oo
  Ow:=Ow
  Ot:=Ot
  S9:=W.mg_of X G Rw
  Og:=⟨(hf .h_).choose_spec.choose_spec.1.1,(hf .h_).choose_spec.choose_spec.1.2.1,(hf .h_).choose_spec.choose_spec.1.2.2⟩
  Pn:=⟨(hf .n_).choose_spec.choose_spec.1.1,(hf .n_).choose_spec.choose_spec.1.2.1,(hf .n_).choose_spec.choose_spec.1.2.2⟩
  N_:=⟨(hf .c7).choose_spec.choose_spec.1.1,(hf .c7).choose_spec.choose_spec.1.2.2.2.1,(hf .c7).choose_spec.choose_spec.1.2.2.2.2⟩
  O2:=⟨Qf,Qj,Qd,Qa⟩
  Mx:=Mx
  MK:=MK
  MF:=MF
  Q8:=W.mg_of X G Qn
  Nv:=⟨(hf .f9).choose_spec.choose_spec.1.1,(hf .f9).choose_spec.choose_spec.1.2.1,(hf .f9).choose_spec.choose_spec.1.2.2⟩
  Oi:=⟨(hf .j4).choose_spec.choose_spec.1.1,(hf .j4).choose_spec.choose_spec.1.2.1,(hf .j4).choose_spec.choose_spec.1.2.2⟩
  Nb:=⟨(hf .c7).choose_spec.choose_spec.1.2.1,(hf .c7).choose_spec.choose_spec.1.2.2.2.1,(hf .c7).choose_spec.choose_spec.1.2.2.2.2⟩
  O1:=⟨Qe,Qi,Qc,P_⟩
  Mw:=Mw
  MJ:=MJ
  Mz:=Mz
  Q7:=W.mg_of X G Qm
  Nr:=⟨(hf .d8).choose_spec.choose_spec.1.1,(hf .d8).choose_spec.choose_spec.1.2.1,(hf .d8).choose_spec.choose_spec.1.2.2⟩
  Oh:=⟨(hf .i_).choose_spec.choose_spec.1.1,(hf .i_).choose_spec.choose_spec.1.2.1,(hf .i_).choose_spec.choose_spec.1.2.2⟩
  M_:=⟨(hf .c7).choose_spec.choose_spec.1.2.2.1,(hf .c7).choose_spec.choose_spec.1.2.2.2.1,(hf .c7).choose_spec.choose_spec.1.2.2.2.2⟩
  PB:=⟨QG,QL,QF,QD⟩
  Nq:=Nq
  NK:=NK
  Ny:=Ny
  RV:=W.mg_of X G QW
  Oa:=⟨(hf .g8).choose_spec.choose_spec.1.1,(hf .g8).choose_spec.choose_spec.1.2.1,(hf .g8).choose_spec.choose_spec.1.2.2⟩
  O8:=⟨(hf .k_).choose_spec.choose_spec.1.1,(hf .k_).choose_spec.choose_spec.1.2.1,(hf .k_).choose_spec.choose_spec.1.2.2⟩
  Nu:=⟨(hf .d9).choose_spec.choose_spec.1.1,(hf .d9).choose_spec.choose_spec.1.2.1,(hf .d9).choose_spec.choose_spec.1.2.2⟩
  Qz:=⟨Rn,Rr,Rk,Rg⟩
  Oq:=Oq
  Oz:=Oz
  Ou:=Ou
  S_:=W.mg_of X G Rx
  Oj:=⟨(hf .j5).choose_spec.choose_spec.1.1,(hf .j5).choose_spec.choose_spec.1.2.1,(hf .j5).choose_spec.choose_spec.1.2.2⟩
  Pq:=⟨(hf .o7).choose_spec.choose_spec.1.1,(hf .o7).choose_spec.choose_spec.1.2.1,(hf .o7).choose_spec.choose_spec.1.2.2⟩
  Ob:=⟨(hf .g_).choose_spec.choose_spec.1.1,(hf .g_).choose_spec.choose_spec.1.2.1,(hf .g_).choose_spec.choose_spec.1.2.2⟩ }
 have e:=(Y.m .law rfl).symm.trans hfa;obtain rfl:Y.adr .law=fa:=by injection e with e1;injection e1
 exact⟨Y.fd .law,fun s v=>by obtain⟨_,_,_,_,_,_,_,_,_,e,_⟩:=(Y.ok .law).ex;rw[e];exact .of_eq rfl,fun base _ _=>(vN l.prog w Y 140 .law).imp (xM YK)⟩
end Sv
namespace L3
open PySem L2
section
variable(ρ:Ev)(h:List PO)
def Lj(i:Nat):ae i ρ h=match ρ[i]? with|some (some p)=>.ok (ay h p) h|_=>.bad:=id rfl
def Hq(v:PV):cK v ρ h=.ok v h:=id rfl
def LZ(g:PV→List PO→Res PV)(a:Ex):c1 g a ρ h=(a ρ h).bind g:=id rfl
def Jz(g:PV→PV→List PO→Res PV)(a b:Ex):c2 g a b ρ h=(a ρ h).bind fun x h1=>(b ρ h1).bind fun y h2=>g x y h2:=id rfl
def Br(g:List PV→List PO→Res PV)(a:Ax):cN g a ρ h=(a ρ h).bind g:=id rfl
def vy:ag ρ h=.ok [] h:=id rfl
def rc(a:Ex)(r:Ax):aa a r ρ h=(a ρ h).bind fun x h1=>(r ρ h1).bind fun xs h2=>.ok (x::xs) h2:=id rfl
def Lu(f g:Ex):vK f g ρ h=(f ρ h).bind fun p h1=>match p with|.bl b=>if b=true then g ρ h1 else .ok (.bl false) h1|_=>.bad:=id rfl
def LW(f g:Ex):VL f g ρ h=(f ρ h).bind fun p h1=>match p with|.bl b=>if b=true then .ok (.bl true) h1 else g ρ h1|_=>.bad:=id rfl
def Lo(f:Ex):yQ f ρ h=(f ρ h).bind fun p h1=>match p with|.bl b=>.ok (.bl (!b)) h1|_=>.bad:=id rfl
def Lq(t:Tx)(f g:Ex):Ec t f g ρ h=(t ρ h).bind fun b h1=>if b=true then f ρ h1 else g ρ h1:=id rfl
def Jv:gJ ρ h=.ok none h:=id rfl
def Ju(f:Ex):dW f ρ h=(f ρ h).bind fun p h1=>match p with|.int i=>.ok (some i) h1|_=>.bad:=id rfl
def LY(recv:List PO→PV→Bool)(g:PV→List PV→List PO→Res PV)(o:Ex)(as:Ax):cM recv g o as ρ h=(o ρ h).bind fun p h1=>if recv h1 p=true then(as ρ h1).bind fun ps h2=>g p ps h2 else .bad:=id rfl
def Kp(fn:List PV→Out)(as:Ax):aA fn as ρ h=(as ρ h).bind (oJ fn):=id rfl
def Km(res:Nat→Option (List PV→Out))(o:Ex)(as:Ax):kh res o as ρ h=(o ρ h).bind fun p h1=>match p with|.ins C []=>(match res C with|some fn=>(as ρ h1).bind fun ps h2=>oJ fn (.ins C []::ps) h2|none=>.bad)|_=>.bad:=id rfl
def Ko(d k x:Ex):BA d k x ρ h=(d ρ h).bind fun p h1=>if(Ru h1 p).isSome=true then(k ρ h1).bind fun q h2=>(x ρ h2).bind fun z h3=>(match Ru h3 p with|some kvs=>(match eS q with|some kk=>.ok (match jk kvs kk with|some v=>ay h3 v|none=>z) h3|none=>.bad)|none=>.bad)else .bad:=id rfl
def Kb(f:Ex):ci f ρ h=(f ρ h).bind fun p h1=>match qC h1 p with|some b=>.ok b h1|none=>.bad:=id rfl
def Kd(f:Ex):aB f ρ h=(f ρ h).bind fun p h1=>match p with|.bl b=>.ok b h1|_=>.bad:=id rfl
def Kc(f:Tx):eP f ρ h=(f ρ h).bind fun b h1=>.ok (!b) h1:=id rfl
def Ke(f g:Tx):di f g ρ h=(f ρ h).bind fun b h1=>if b=true then g ρ h1 else .ok false h1:=id rfl
def Ll(f g:Tx):sj f g ρ h=(f ρ h).bind fun b h1=>if b=true then .ok true h1 else g ρ h1:=id rfl
def mn(f:Ax):bD f ρ h=(f ρ h).bind fun ps h1=>match ps with|[.int j]=>if Rv 4611686018427387904 j=true then .ok ((List.range j.toNat).map fun i=>PV.int (0+(i:Nat))) h1 else .bad|_=>.bad:=id rfl
def DW(f:Ex):eY f ρ h=(f ρ h).bind ju:=id rfl
def oz(j6:List Nat)(it:Ax)(tt:Tx)(te:Ex):bG j6 it tt te ρ h=(it ρ h).bind fun xs h1=>if xs.length<sizeLine then be tt te (dL j6 ρ) xs h1 else .bad:=id rfl
def Li:bX ρ h=.ok true h:=id rfl
def Kj:aW ρ h=.nx ρ h:=id rfl
def Kh(f g:Sx):ak f g ρ h=match f ρ h with|.nx ρ1 h1=>g ρ1 h1|.rt v h1=>.rt v h1|.bk ρ1 h1=>.bk ρ1 h1|.ct ρ1 h1=>.ct ρ1 h1|.exc v h1=>.exc v h1|.bad=>.bad:=id rfl
def Ki(f:Ex):aP f ρ h=dq (f ρ h) fun v h1=>.rt v h1:=id rfl
def Jt(f:Ex):bY f ρ h=dq (f ρ h) fun _ h1=>.nx ρ h1:=id rfl
def Bq(t:Tx)(f g:Sx):v9 t f g ρ h=tV (t ρ h) fun b h1=>if b=true then f ρ h1 else g ρ h1:=id rfl
def Kg(i:Nat)(f:Ex):aC i f ρ h=dq (f ρ h) fun v h1=>.nx (ρ.set i (some v)) h1:=id rfl
def Kk(it:Ax)(g:Gx)(body:Sx):dD it g body ρ h=sZ (it ρ h) fun xs h1=>aZ g body xs ρ h1:=id rfl
def Jw(g:Gx)(body:Sx):aZ g body [] ρ h=.nx ρ h:=id rfl
def Lr(i:Nat)(p:PV):n8 i p ρ=some (ρ.set i (some p)):=id rfl
end
section
variable(h:List PO)
def Lz(i:Int):ay h (.int i)=.int i:=id rfl
def Mb(i:Bool):ay h (.bl i)=.bl i:=id rfl
def Lw(i:List Nat):ay h (.str i)=.str i:=id rfl
def Lx:ay h .non=.non:=id rfl
def Lv(i:List PV):ay h (.tup i)=.tup i:=id rfl
def Ly(i:List PV):ay h (.lst i)=.lst i:=id rfl
def LA(i:List PV):ay h (.Mv i)= .Mv i:=id rfl
def LB(i:List (PK×PV)):ay h (.dct i)=.dct i:=id rfl
def Kq(xs:List PV)(r:List PO):ay (.lst xs::r) (.ref 0)=.ref 0:=id rfl
def HA(i j:Int):aT (.int i) (.int j) h=.ok (.int (i+j)) h:=id rfl
def LE(a b:List Nat):aT (.str a) (.str b) h=if a.length+b.length≤sizeLine then .ok (.str (a++b)) h else .bad:=id rfl
def vP(a b:List PV):aT (.tup a) (.tup b) h=if a.isEmpty=false∧a.length+b.length≤sizeLine then .ok (.tup (a++b)) h else .bad:=id rfl
def LF(a b:List PV):aT (.lst a) (.lst b) h=if a.length+b.length≤sizeLine then .ok (.lst (a++b)) h else .bad:=id rfl
def KG(i j:Int):sK (.int i) (.int j) h=.ok (.int (i - j)) h:=id rfl
def KN(i j:Int):jx (.int i) (.int j) h=if je i j=true then .ok (.int (i * j)) h else .bad:=id rfl
def IV(C:Int→Int→Bool)(g:Int→Int→Int)(i j:Int):pI C g (.int i) (.int j) h=if C i j=true then .ok (.int (g i j)) h else .bad:=id rfl
def LP(i:Int):yi (.int i) h=.ok (.int (-i)) h:=id rfl
def LD(g:Int→Int→Bool)(i j:Int):AF g (.int i) (.int j) h=.ok (.bl (g i j)) h:=id rfl
def Mc(p:PV):Vm p .non h=.ok (.bl (fh p)) h:=id rfl
def JW(p:PV):dE p .non h=.ok (.bl (!fh p)) h:=id rfl
def LR(l:List Nat)(i:Int):d7 (.str l) (.int i) h=match m_ l i with|some c=>if l.length≤sizeLine then .ok (.str [c]) h else .bad|none=>.bad:=id rfl
def AZ(l:List PV)(i:Int):d7 (.tup l) (.int i) h=match m_ l i with|some v=>.ok (ay h v) h|none=>.bad:=id rfl
def LS(l:List PV)(i:Int):d7 (.lst l) (.int i) h=match m_ l i with|some v=>.ok (ay h v) h|none=>.bad:=id rfl
def LT(l:List PV)(i:Int):d7 (.Mv l) (.int i) h=match m_ l i with|some v=>.ok (ay h v) h|none=>.bad:=id rfl
def Je(l:List PV):gI [.tup l] h=.ok (.int l.length) h:=id rfl
def EI(l:List PV):gI [.lst l] h=.ok (.int l.length) h:=id rfl
def Jf(l:List PV):gI [.Mv l] h=.ok (.int l.length) h:=id rfl
def KP(ps:List PV):bx ps h=if ps.length≤sizeLine then .ok (.lst ps) h else .bad:=id rfl
def JV(ps:List PV):fg ps h=if ps.length≤sizeLine then .ok (.ref h.length) (h++ [.lst ps])else .bad:=id rfl
def Ks(ps:List PV):au ps h=if ps.length≤sizeLine then .ok (.tup ps) h else .bad:=id rfl
def KM(ps:List PV):QH ps h=.ok (.lst ps) h:=id rfl
def JU(l:List Nat):ju (.str l) h=.ok (l.map fun c=>PV.str [c]) h:=id rfl
def JT(l:List PV):ju (.tup l) h=.ok l h:=id rfl
def Ce(l:List PV):ju (.lst l) h=.ok l h:=id rfl
def JX(x:List Nat):jC h (.str x)=true:=id rfl
def JZ(i:Int):cC h (.int i)=some (.int i,h):=by simp[cC,PV.pure]
def Lh(i:Bool):cC h (.bl i)=some (.bl i,h):=by simp[cC,PV.pure]
def JY(i:List Nat):cC h (.str i)=some (.str i,h):=by simp[cC,PV.pure]
def Ka(c:Nat):cC h (.ins c [])=some (.ins c [],h):=by simp[cC,PV.pure,lZ]
theorem fQ{l:List PV}(q:aI l=true):cC h (.lst l)=some (.lst l,h):=by simp[cC,PV.pure,q]
theorem jX{l:List PV}(q:aI l=true):cC h (.tup l)=some (.tup l,h):=by simp[cC,PV.pure,q]
def Jp:Ms [] h=some ([],h):=id rfl
def yE(p:PV)(r:List PV):Ms (p::r) h=match cC h p with|some (q,h1)=>(match Ms r h1 with|some (qs,h2)=>some (q::qs,h2)|none=>none)|none=>none:=id rfl
def LU(a b:List Nat):Rz (.str a) (.str b) h=.ok (.bl (eT a b)) h:=id rfl
def IY(a b:List Nat):kt (.str a) (.str b) h=.ok (.bl (!eT a b)) h:=id rfl
def LN(b:Bool):qC h (.bl b)=some b:=id rfl
def HV(l:List Nat):qC h (.str l)=if l.length≤sizeLine then some (!l.isEmpty)else none:=id rfl
def EM(l:Int):cr [.int l,.ty "bool"] h=.ok (.bl false) h:=id rfl
def EK(l:Int):cr [.int l,.ty "list"] h=.ok (.bl false) h:=id rfl
def DJ(l:Int):cr [.int l,.ty "tuple"] h=.ok (.bl false) h:=id rfl
def EL(l:Int):cr [.int l,.ty "dict"] h=.ok (.bl false) h:=id rfl
def EJ(l:List PV):cr [.tup l,.ty "list"] h=.ok (.bl false) h:=id rfl
def DI(l:List PV):cr [.tup l,.ty "tuple"] h=.ok (.bl true) h:=id rfl
end
def szl:(sizeLine:Nat)=16777216:=by decide
theorem ai(fn:List PV→Out)(ps:List PV)(h:List PO):oJ fn ps h=match Ms ps h with|some (qs,h2)=>(match fn qs with|.ok v=>.ok v h2|.bad=>.bad)|none=>.bad:=rfl
theorem mi{i j:Int}(h:Rv 18446744073709551616 j=true):je i j=true:=by unfold je;rw[h,Bool.or_true]
theorem nY{i j:Int}(h:Rv 18446744073709551616 i=true):je i j=true:=by unfold je;rw[h,Bool.true_or]
theorem AE(a b:List Nat)(h:List PO)(ha:∀c∈a,c<1114112)(hb:∀c∈b,c<1114112):m9 (.str a) (.str b) h=.ok (.bl (decide (a=b))) h:=by
 have ok:∀l:List Nat,(∀c∈l,c<1114112)→Qp h (.str l)=true:=by intro l hl;unfold Qp Qx;simp only[toD,PyData.canLay0,PyData.depth];simp[PyData.strOk,S];exact hl
 unfold m9;rw[if_pos ⟨ok a ha,ok b hb⟩]
 have e:PyData.eqv (Qx h (.str a)) (Qx h (.str b))=decide (a=b):=by
  show PyData.eqv (toD (.str a)) (toD (.str b))=_;simp only[toD,PyData.eqv]
  by_cases q:a=b
  ·subst q;simp
  ·have:¬ S a=S b:=fun z=>q (EW z);simp[q,this]
 rw[e]
theorem gv{tt:Tx}{te:Ex}{cp:Ev}{h:List L3.PO}{t:PV→Bool}{f:PV→PV}:∀(xs:List PV),(∀p∈xs,tt (some p::cp) h=.ok (t p) h)→(∀p∈xs,te (some p::cp) h=.ok (f p) h)→
  be tt te cp xs h=.ok ((xs.filter t).map f) h
 |[],_,_=>rfl
 |p::r,h1,h2=>by
  have ih:=gv r (fun q hq=>h1 q (List.mem_cons_of_mem _ hq)) (fun q hq=>h2 q (List.mem_cons_of_mem _ hq));rw[be,h1 p List.mem_cons_self]
  cases e:t p with
  |true=>simp only[Res.G4,if_true,h2 p List.mem_cons_self,ih,List.filter_cons,e,List.map_cons]
  |false=>simp only[Res.G4,Bool.false_eq_true,if_false,ih,List.filter_cons,e]
theorem gy{te:Ex}{cp:Ev}{h:List L3.PO}{f:PV→PV}(xs:List PV)(h2:∀p∈xs,te (some p::cp) h=.ok (f p) h):be bX te cp xs h=.ok (xs.map f) h:=by have:=gv (tt:=bX) (t:=fun _=>true) xs (fun _ _=>rfl) h2;rw[this,List.filter_eq_self.mpr (fun _ _=>rfl)]
theorem lS{α:Type}{xs:List α}{i:Int}(d:α)(h0:0≤i)(h1:i<(xs.length:Int)):m_ xs i=some (xs.getD i.toNat d):=by refine cU h0 ?_;rw[List.getD_eq_getElem?_getD,List.getElem?_eq_getElem (by omega)];rfl
theorem lF{α:Type}{xs:List α}{n:Nat}{d:α}(h:n<xs.length):xs.getD n d∈xs:=by rw[List.getD_eq_getElem?_getD,List.getElem?_eq_getElem h];exact List.getElem_mem h
theorem pY:∀ls:List (List Nat),kf [] ls=ls.flatten
 |[]=>rfl
 |[x]=>by simp[kf]
 |x::y::r=>by show x++ []++kf [] (y::r)=_;rw[pY (y::r),List.append_nil];rfl
theorem AD{sep:List Nat}{q:PV}{ls:List (List Nat)}{h:List L3.PO}(e:Q9 h q=some (ls.map PV.str))(hz:(ls.map (fun l=>l.length)).sum+ls.length * sep.length≤16777216):ie (.str sep) [q] h=.ok (.str (kf sep ls)) h:=by unfold ie;simp only[e,xJ,hz,if_true]
theorem qP{ls:List (List Nat)}{h:List L3.PO}(hz:(ls.map (fun l=>l.length)).sum≤16777216):ie (.str []) [.lst (ls.map PV.str)] h=.ok (.str ls.flatten) h:=by rw[AD (ls:=ls) rfl (by simpa using hz),pY]
theorem cP(a b:Int)(h:List L3.PO):m9 (.int a) (.int b) h=.ok (.bl (decide (a=b))) h:=by
 have ok:∀l:Int,Qp h (.int l)=true:=fun l=>by unfold Qp Qx;simp[toD,PyData.canLay0,PyData.depth]
 unfold m9;rw[if_pos ⟨ok a,ok b⟩]
 have e:PyData.eqv (Qx h (.int a)) (Qx h (.int b))=decide (a=b):=by
  show PyData.eqv (toD (.int a)) (toD (.int b))=_;simp only[toD,PyData.eqv]
  by_cases q:a=b<;>simp[q]
 rw[e]
theorem AC(a b:Int)(h:List L3.PO):Qv (.int a) (.int b) h=.ok (.bl (!decide (a=b))) h:=by
 have ok:∀l:Int,Qp h (.int l)=true:=fun l=>by unfold Qp Qx;simp[toD,PyData.canLay0,PyData.depth]
 unfold Qv;rw[if_pos ⟨ok a,ok b⟩]
 have e:PyData.eqv (Qx h (.int a)) (Qx h (.int b))=decide (a=b):=by
  show PyData.eqv (toD (.int a)) (toD (.int b))=_;simp only[toD,PyData.eqv]
  by_cases q:a=b<;>simp[q]
 rw[e]
theorem qO(a b:List Nat)(h:List L3.PO)(ha:∀c∈a,c<1114112)(hb:∀c∈b,c<1114112):Qv (.str a) (.str b) h=.ok (.bl (!decide (a=b))) h:=by
 have e:=AE a b h ha hb;unfold m9 at e;unfold Qv
 split at e
 ·rename_i hc;rw[if_pos hc];injection e with e1 e2
  injection e1 with e1
  rw[e1]
 ·cases e
theorem kL{α:Type}(f:α→List Nat)(h:∀x,(f x).length=1){l:List α}:((l.map f).map (fun l=>l.length)).sum=l.length:=by
 induction l with
 |nil=>rfl
 |cons a r ih=>rw[List.map_cons,List.map_cons,List.sum_cons,ih,h,List.length_cons,Nat.add_comm]
variable{m:Nat}{raw Xy:List Nat}
open PySem.NumText (digitsVal AllDigits)
section
variable(h:List L3.PO)(ρ:Ev)
def Js(fo fi fv:Ex):kj fo fi fv ρ h=dq (fv ρ h) fun v h1=>dq (fo ρ h1) fun o h2=>dq (fi ρ h2) fun i h3=>jq v o i ρ h3:=id rfl
end
theorem uQ{l:List Nat}(h:List L3.PO)(hl:∀c∈l,c<1114112):Qp h (.str l)=true:=by unfold Qp Qx;simp only[toD,PyData.canLay0,PyData.depth];simp[PyData.strOk,S];exact hl
theorem vN:∀{ls:List (List Nat)},(∀l∈ls,∀c∈l,c<1114112)→(ls.map PV.str).all (Qp [])=true
 |[],_=>rfl
 |l::r,h=>by rw[List.map_cons,List.all_cons,uQ [] (h l (by simp)),vN fun z hz=>h z (List.mem_cons_of_mem _ hz)];rfl
theorem pw:∀{ls:List (List Nat)},(∀l∈ls,∀c∈l,c<1114112)→PyData.canLayAll0 (fU (ls.map PV.str))=true∧PyData.depthAll (fU (ls.map PV.str))≤1
 |[],_=>by simp[fU,PyData.canLayAll0,PyData.depthAll]
 |l::r,h=>by
  have ih:=pw fun z hz=>h z (List.mem_cons_of_mem _ hz);have h1:∀c∈l,c<1114112:=h l (by simp)
  have h2:PyData.canLay0 (toD (.str l))=true:=by have:=uQ [] h1;unfold Qp at this;exact((Bool.and_eq_true _ _).mp this).1
  have h3:PyData.depth (toD (.str l))≤1:=by simp[toD,PyData.depth]
  rw[List.map_cons];simp only[fU,PyData.canLayAll0,PyData.depthAll,h2,ih.1,Bool.and_self,true_and];omega
theorem re{ls:List (List Nat)}(hl:∀l∈ls,∀c∈l,c<1114112)(h:List L3.PO):m9 (.lst (ls.map PV.str)) (.lst []) h=.ok (.bl ls.isEmpty) h:=by
 have ok:Qp h (.lst (ls.map PV.str))=true:=by unfold Qp Qx;have:=pw hl;simp only[toD,PyData.canLay0,PyData.depth,this.1,Bool.true_and,decide_eq_true_eq];omega
 unfold m9;rw[if_pos ⟨ok,rfl⟩]
 cases ls with
 |nil=>rfl
 |cons a r=>rfl
section
variable(ρ:Ev)(h:List PO)
def LX(f:Ex):Va f ρ h=(f ρ h).bind U_:=id rfl
def Kf(fo fi fv:Ex):nG fo fi fv ρ h=dq (fv ρ h) fun v h1=>dq (fo ρ h1) fun o h2=>dq (fi ρ h2) fun i h3=>sv v o i ρ h3:=id rfl
def JA(f:Ex):lT f ρ h=(f ρ h).bind jt:=id rfl
def KJ(kps:List (PK×PV)):jt (.dct kps) h=.ok (kps.map fun p=>lD p.1) h:=id rfl
def KI(l:List PV):jt (.tup l) h=.ok l h:=id rfl
def Ma(l:List (PK×PV))(r:List PO):ay (.dct l::r) (.ref 0)=.ref 0:=id rfl
theorem Jo{l:List (PK×PV)}(r:List PO)(hp:gc l=true):U_ (.ref 0) (.dct l::r)=.ok (.dct l) (.o9 (.dct l)::r):=by simp[U_,XH,cG,hp]
theorem cH{p:PV}(hp:p.pure=true):cC h p=some (p,h):=by cases p<;>first|(simp[PV.pure]at hp;done)|simp[cC,hp]
theorem bB{p:PV}(hp:p.pure=true):ay h p=p:=by cases p<;>first|(simp[PV.pure]at hp;done)|rfl
def Fo(v:PV)(l:List (PK×PV))(r:List PO)(x:List Nat):sv v (.ref 0) (.str x) ρ (.dct l::r)=if l.length<sizeLine then .nx ρ (.dct (kT l (.inr x) v)::r)else .bad:=id rfl
def LQ(l:List (PK×PV))(r:List PO):(cG (.dct l::r) (.ref 0)).isSome=true:=id rfl
end
section
variable{ρ:Ev}{h:List L3.PO}
def Ls(g:Gx)(f:Ex):ko g f ρ h=dq (f ρ h) fun v h1=>match g v ρ with|some ρ1=>.nx ρ1 h1|none=>.bad:=id rfl
def LV(n:Nat)(gs:Ve)(ps:List PV):Nm n gs (.tup ps) ρ=if ps.length=n then gs ps ρ else none:=id rfl
def Me(g:Gx)(gs:Ve)(p:PV)(r:List PV):ar g gs (p::r) ρ=match g p ρ with|some ρ1=>gs r ρ1|none=>none:=id rfl
def Md:bv [] ρ=some ρ:=id rfl
def JB(f:Ax):iO f ρ h=(f ρ h).bind DX:=id rfl
def Lm(a:Ex)(lo hi:Ox):ji a lo hi ρ h=(a ρ h).bind fun p h1=>(lo ρ h1).bind fun l h2=>(hi ρ h2).bind fun u h3=>mL p l u h3:=id rfl
def LO(l:List Nat)(lo hi:Option Int):mL (.str l) lo hi h=if l.length≤sizeLine then .ok (.str (cut l lo hi)) h else .bad:=id rfl
def Io(l:List PV)(lo hi:Option Int):mL (.Mv l) lo hi h=.ok (.lst (cut l lo hi)) h:=id rfl
theorem Im(l:List PV)(lo hi:Option Int):mL (.tup l) lo hi h=if HT.G3 l.length 0 lo=0∧HT.G3 l.length l.length hi=l.length then .ok (.tup l) h else .ok (.tup (cut l lo hi)) h:=id rfl
def KO(i j:Int):uI [.int i,.int j] h=.ok (.int (if j>i then j else i)) h:=id rfl
def Jy(fn:List PV→List PO→Res PV)(as:Ax):bp fn as ρ h=(as ρ h).bind (gR fn):=id rfl
theorem zk(l:List PV)(i:Nat)(hi:i≤l.length):mL (.tup l) (some (i:Int)) none h=.ok (.tup (l.drop i)) h:=by
 have e1:HT.G3 l.length 0 (some (i:Int))=i:=by rw[HT.Qu];omega
 have e2:HT.G3 l.length l.length none=l.length:=rfl;rw[Im,e1,e2]
 by_cases z:i=0
 ·subst z;simp
 ·rw[if_neg (by omega)];show Res.ok (PV.tup (cut l (some (i:Int)) none)) h=_
  congr 2
  unfold cut;rw[e1,e2,List.take_of_length_le (by simp)]
end
section
variable{ρ:Ev}{h:List L3.PO}
def Jx(fn:List PV→Res PV)(as:Ax):eW fn as ρ h=(as ρ h).bind (oK fn):=id rfl
def Kl(fo fk fd:Ex):lP fo fk fd ρ h=(fo ρ h).bind fun p h1=>if(cG h1 p).isSome=true then(fk ρ h1).bind fun q h2=>(fd ρ h2).bind fun d h3=>mF p q d h3 else .bad:=id rfl
def Lk(fo fe:Ex):pc fo fe ρ h=(fo ρ h).bind fun p h1=>if(cG h1 p).isSome=true then(fe ρ h1).bind fun q h2=>rR p q h2 else .bad:=id rfl
def Kn(f:Ax):Bz f ρ h=(f ρ h).bind wL:=id rfl
def Fp(xs:List PV):jt (.lst xs) h=.ok xs h:=id rfl
theorem DB(l:List (PK×PV))(r:List PO):jy [.ref 0] (.dct l::r)=.ok (.lst (l.map fun p=>lD p.1)) (.dct l::r):=id rfl
theorem DA(l:List Nat):jy [.str l] h=if l.length≤sizeLine then .ok (.lst (l.map fun c=>.str [c])) h else .bad:=id rfl
def HI(a b:Ex):mx [(a,b)] ρ h=(a ρ h).bind fun x h1=>(b ρ h1).bind fun y h2=>match eS x with|some k=>.ok (.ref h2.length) (h2++ [.dct [(k,y)]])|none=>.bad:=by
 unfold mx eV
 cases a ρ h with
 |bad=>rfl
 |exc _ _=>rfl
 |ok x h1=>
  simp only[Res.G4]
  cases b ρ h1 with
  |bad=>rfl
  |exc _ _=>rfl
  |ok y h2=>
   simp only[Res.G4]
   cases eS x<;>rfl
end
end L3
namespace Sv
open PySem L2 L3
local macro_rules | `(tactic| simp only [EV,$xs,*])=>do let a←(("Res.G4 Res.Xc Res.Xd JC JJ Ji HJ HK HH Lj Hq LZ Jz Br vy rc Lu LW Lo Lq Jv Ju LY Kp Km Ko Kb Kd Kc Ke Ll mn DW oz Li Kj Kh Ki Jt Bq Kg Kk Jw Lr Lz Mb Lw Lx Lv Ly LA LB Kq HA LE vP LF KG KN IV LP LD Mc JW LR AZ LS LT Je EI Jf KP JV Ks KM JU JT Ce JX JZ Lh JY Ka Jp yE LU IY LN HV EM EK DJ EL EJ DI szl Js LX Kf JA KJ KI Ma Fo LQ Ls LV Me Md JB Lm LO Io KO Jy Jx Kl Lk Kn Fp HI".splitOn.map fun n=>`L3++n.toName)++"List.getElem?_cons_zero List.getElem?_cons_succ List.getElem?_nil List.set_cons_zero List.set_cons_succ List.map_cons List.map_nil List.append_nil List.nil_append List.cons_append if_true if_false ite_true ite_false reduceIte Bool.not_true Bool.not_false Bool.true_and Bool.false_and Bool.and_true Bool.and_false Bool.true_or Bool.false_or Bool.or_true Bool.or_false Bool.not_not eq_self_iff_true true_and and_true Bool.false_eq_true reduceCtorEq List.length_cons List.length_nil List.replicate Nat.sub_self Nat.zero_add Option.isSome_some Option.isSome_none Nat.reduceAdd Nat.reduceLeDiff Int.reduceLT Int.reduceLE decide_true decide_false Int.reduceNeg Int.reducePow Nat.reducePow Int.reduceAdd Int.reduceMul Int.reduceSub Nat.reduceSub and_self Nat.reduceMul Nat.reduceEqDiff".splitOn.map String.toName).toArray.mapM fun n=>`(Lean.Parser.Tactic.simpLemma| $(Lean.mkIdent n):term);`(tactic| simp only [$a,*,$xs,*])
mutual
inductive Nd where
 |text (c:Nat) (s:List Nat)
 |place (p:PV) (w:Nat)
 |loop (n:List Nat) (p:PV) (ns:j9) (b:List Nat)
 |choice (p:PV) (y n:j9)
inductive j9 where
 |nil
 |cons (n:Nd) (r:j9)
end
noncomputable def O5(w:Nat):List Nat:=[[119,111,114,100],[110,117,109,98,101,114],[113,117,111,116,101,100],[112,108,97,105,110],[108,105,110,101]].getD w []
abbrev tT:List Nat:=[116,101,120,116]
abbrev tP:List Nat:=[112,108,97,99,101]
abbrev tL:List Nat:=[108,111,111,112]
abbrev tC:List Nat:=[99,104,111,105,99,101]
mutual
def nd:Nd→PV
 |.text c s=>.tup [.str tT,.str (c::s)]
 |.place p w=>.tup [.str tP,p,.str (O5 w)]
 |.loop n p ns b=>.tup [.str tL,.str n,p,.tup (b_ ns),.str b]
 |.choice p y n=>.tup [.str tC,p,.tup (b_ y),.tup (b_ n)]
def b_:j9→List PV
 |.nil=> []
 |.cons n r=>nd n::b_ r
end
def J_(l:List Nat):Bool:=l.all fun c=>aF.contains c
def txt(l:List Nat):Bool:=decide (l.length≤9000000)&&J_ l
def kb:List PV→Bool
 |[]=>true
 |.str l::r=>J_ l&&kb r
 |_::_=>false
def dP:PV→Bool
 |.tup xs=>kb xs
 |_=>false
def dQ(n:List Nat)(p:PV):Bool:=J_ n&&dP p
mutual
def wf:Nd→Bool
 |.text c s=>txt (c::s)
 |.place p w=>dP p&&decide (w<5)
 |.loop n p ns b=>dQ n p&&u9 ns&&txt b
 |.choice p y n=>dP p&&u9 y&&u9 n
def u9:j9→Bool
 |.nil=>true
 |.cons n r=>wf n&&u9 r
end
mutual
def K_:Nd→Nat
 |.text _ _=>0
 |.place _ _=>0
 |.loop _ _ ns _=>aO ns+1
 |.choice _ y n=>max (aO y) (aO n)+1
def aO:j9→Nat
 |.nil=>0
 |.cons n r=>max (K_ n) (aO r)
end
theorem nv:∀{xs:List PV},kb xs=true→aI xs=true
 |[],_=>by simp[aI]
 |x::r,h=>by
  cases x with
  |str l=>rw[kb,Bool.and_eq_true]at h;rw[aI,nv h.2];simp[PV.pure]
  |_=>cases h
theorem fS{p:PV}(h:dP p=true):p.pure=true:=by
 cases p with
 |tup xs=>rw[PV.pure];exact nv h
 |_=>cases h
theorem Ea{n:List Nat}{p:PV}(h:dQ n p=true):p.pure=true:=by rw[dQ,Bool.and_eq_true]at h;exact fS h.2
mutual
theorem gq:∀n:Nd,wf n=true→(nd n).pure=true
 |.text c s,_=>by simp[nd,PV.pure,aI]
 |.place p w,h=>by rw[wf,Bool.and_eq_true]at h;simp[nd,PV.pure,aI,fS h.1]
 |.loop n p ns b,h=>by rw[wf,Bool.and_eq_true,Bool.and_eq_true]at h;simp[nd,PV.pure,aI,Ea h.1.1,aQ ns h.1.2]
 |.choice p y n,h=>by rw[wf,Bool.and_eq_true,Bool.and_eq_true]at h;simp[nd,PV.pure,aI,fS h.1.1,aQ y h.1.2,aQ n h.2]
theorem aQ:∀ns:j9,u9 ns=true→aI (b_ ns)=true
 |.nil,_=>by simp[b_,aI]
 |.cons n r,h=>by rw[u9,Bool.and_eq_true]at h;simp[b_,aI,gq n h.1,aQ r h.2]
end
theorem jG{n:Nd}(h:wf n=true):∀hh,cC hh (nd n)=some (nd n,hh):=fun hh=>cH hh (gq n h)
theorem cx{ns:j9}(h:u9 ns=true):∀hh,cC hh (.tup (b_ ns))=some (.tup (b_ ns),hh):=fun hh=>jX hh (aQ ns h)
def Xl(w:Nat):List Nat:=match F 5 .J5 [.str (O5 w)]with
 |.ok (.ins C [])=>match lL (F 5) C with
  |some fn=>match fn [.ins C []]with
   |.ok (.str l)=>l
   |_=> []
  |none=> []
 |_=> []
noncomputable def Yg(w:Nat):Bool:=decide (3≤w)
mutual
def fst:Nd→Nat→Bool
 |.text c _,d=>decide (d=c)
 |.place _ w,d=>(Xl w).contains d
 |.loop _ _ ns b,d=>bE ns d||(M7 ns&&(b.take 1).contains d)
 |.choice _ y n,d=>bE y d||bE n d
def vd:Nd→Bool
 |.text _ _=>false
 |.place _ w=>Yg w
 |.loop _ _ _ _=>true
 |.choice _ y n=>M7 y||M7 n
def bE:j9→Nat→Bool
 |.nil,_=>false
 |.cons n r,d=>fst n d||(vd n&&bE r d)
def M7:j9→Bool
 |.nil=>true
 |.cons n r=>vd n&&M7 r
end
def flt(f:Nat→Bool):List Nat:=aF.filter f
theorem ym(l:List Nat):(l.map fun c=> [c]).flatten=l:=by
 induction l with
 |nil=>rfl
 |cons a r ih=>simp[ih]
theorem kL:∀(l:List (List Nat)),(∀x∈l,x.length=1)→(l.map (fun l=>l.length)).sum=l.length
 |[],_=>rfl
 |x::r,h=>by rw[List.map_cons,List.sum_cons,kL r (fun y hy=>h y (List.mem_cons_of_mem _ hy)),h x (List.mem_cons_self ..),List.length_cons];omega
theorem zm(k:Nat):F (k+1) .signs []=.ok (.str aF):=by kernel_rfl
theorem Ed(k:Nat)(l m:List Nat):F (k+2) .j8 [.str l,.str m]=.ok (.str (flt fun c=>l.contains c||m.contains c)):=by
 show aJ (cX (F (k+1))) 2 2 [.str l,.str m]=_;have s1:=zm k
 have cm:∀h,be (eO (F (k+1))) (eU (F (k+1))) (dL [0,1] [some (.str l),some (.str m)]) (aF.map fun c=>PV.str [c]) h=.ok (((flt fun c=>l.contains c||m.contains c).map fun c=> [c]).map PV.str) h:=by
  intro h;rw[gv (t:=fun p=>match p with|.str [c]=>l.contains c||m.contains c|_=>false) (f:=fun p=>p)]
  ·unfold flt;rw[List.map_id'',List.map_map,List.filter_map]
   ·rfl
   ·intro p;rfl
  ·intro p hp;obtain⟨c,hc,rfl⟩:=List.mem_map.mp hp;simp only[EV,eO,dL,Option.getD_some,eI]
   cases l.contains c<;>simp only[EV,if_true]
  ·intro p hp;obtain⟨c,hc,rfl⟩:=List.mem_map.mp hp;simp only[EV,eU]
 have hl:(flt fun c=>l.contains c||m.contains c).length≤95:=Nat.le_trans (List.length_filter_le _ _) (by decide)
 have jn:∀h,ie (.str []) [.lst (((flt fun c=>l.contains c||m.contains c).map fun c=> [c]).map PV.str)] h=.ok (.str ((flt fun c=>l.contains c||m.contains c).map fun c=> [c]).flatten) h:=fun h=>qP (by rw[kL _ (fun x hx=>by obtain⟨c,_,rfl⟩:=List.mem_map.mp hx;rfl),List.length_map];omega)
 have ln:(aF.map fun c=>PV.str [c]).length<16777216:=by rw[List.length_map];decide
 simp only[EV,aJ,cX,ai,s1,cm,jn,ln,ym,cW]
theorem dJ{f g:Nat→Bool}(h:∀d∈aF,f d=g d):flt f=flt g:=List.filter_congr h
theorem fR{f:Nat→Bool}{d:Nat}(h:d∈aF):(flt f).contains d=f d:=by unfold flt;rw[Bool.eq_iff_iff,List.contains_iff_mem,List.mem_filter];exact⟨fun z=>z.2,fun z=>⟨h,z⟩⟩
theorem iI(k:Nat)(f g:Nat→Bool)(m:List Nat)(hg:∀d∈aF,m.contains d=g d):F (k+2) .j8 [.str (flt f),.str m]=.ok (.str (flt fun d=>f d||g d)):=by rw[Ed,dJ fun d hd=>by rw[fR hd,hg d hd]]
def nb:Nd→List Nat
 |.text c _=> [c]
 |.place _ w=>Xl w
 |.loop _ _ ns b=>flt fun d=>bE ns d||(M7 ns&&(b.take 1).contains d)
 |.choice _ y n=>flt fun d=>bE y d||bE n d
theorem GS(n:Nd):∀d∈aF,(nb n).contains d=fst n d:=by
 intro d hd
 cases n with
 |text c s=>simp[nb,fst]
 |place p w=>rfl
 |loop m p ns b=>rw[nb,fR hd,fst]
 |choice p y n=>rw[nb,fR hd,fst]
theorem uo:∀c∈aF,c<1114112:=by decide
theorem mf{l:List Nat}(h:J_ l=true):∀c∈l,c∈aF:=fun c hc=>List.contains_iff_mem.mp (List.all_eq_true.mp h c hc)
theorem mh{l:List Nat}(h:J_ l=true):∀c∈l,c<1114112:=fun c hc=>uo c (mf h c hc)
theorem eN{l:List Nat}(h:txt l=true):J_ l=true:=by unfold txt at h;rw[Bool.and_eq_true]at h;exact h.2
theorem ue{l:List Nat}(h:txt l=true):∀c∈l,c<1114112:=mh (eN h)
theorem hV{l:List Nat}(h:txt l=true):l.length≤9000000:=by unfold txt at h;rw[Bool.and_eq_true]at h;exact of_decide_eq_true h.1
theorem yI(l:List Nat):cut l none (some 1)=l.take 1:=by
 unfold cut;have e:HT.G3 l.length l.length (some 1)=min 1 l.length:=HT.Qu l.length l.length 1;rw[e];show(l.drop 0).take (min 1 l.length - 0)=_
 cases l<;>simp
theorem Du(k:Nat){c:Nat}{s:List Nat}(h:txt (c::s)=true):F (k+1) .p8 [nd (.text c s)]=.ok (.tup [.str [c],.bl false]):=by
 show aJ (bq (F k)) 1 6 [nd (.text c s)]=_;have e1:∀h,m9 (.str tT) (.str tT) h=.ok (.bl true) h:=fun h=>by kernel_rfl
 have e2:=fun h=>AE (c::s) [] h (ue ‹_›) (by simp);have hl:s.length≤16777215:=by have:=hV h;rw[List.length_cons]at this;omega
 have a0:m_ [PV.str tT,PV.str (c::s)] 0=some (.str tT):=rfl;have a1:m_ [PV.str tT,PV.str (c::s)] 1=some (.str (c::s)):=rfl;simp only[EV,aJ,bq,nd,a0,a1,e1,e2,hl,yI,List.take_succ_cons,List.take_zero,cW];rfl
theorem AN(k:Nat)(p:PV):∀w,w<5→F (k+6) .p8 [nd (.place p w)]=.ok (.tup [.str (Xl w),.bl (Yg w)])
 |0,_=>by kernel_rfl
 |1,_=>by kernel_rfl
 |2,_=>by kernel_rfl
 |3,_=>by kernel_rfl
 |4,_=>by kernel_rfl
 |n+5,h=>absurd h (by omega)
theorem Ug(l:List Nat)(u:Bool)(h:List L3.PO):cC h (PV.tup [.str l,.bl u])=some (PV.tup [.str l,.bl u],h):=jX h (by simp[aI,PV.pure])
def NB(k:Nat):j9→Prop
 |.nil=>True
 |.cons n r=>F k .p8 [nd n]=.ok (.tup [.str (nb n),.bl (vd n)])∧NB k r
theorem xq(k:Nat)(t:PV)(hh:List L3.PO):∀(ns:j9)(A:Nat→Bool)(x y:Option PV),u9 ns=true→NB (k+2) ns→∃x' y',
  aZ (n8 2) (cg (F (k+2))) (b_ ns) [some t,some (.str (flt A)),x,y] hh=if M7 ns=true then .nx [some t,some (.str (flt fun d=>A d||bE ns d)),x',y'] hh else .rt (.tup [.str (flt fun d=>A d||bE ns d),.bl false]) hh
 |.nil,A,x,y,_,_=>⟨x,y,by
  have e:(flt fun d=>A d||bE .nil d)=flt A:=dJ fun d _=>by simp[bE]
  rw[e];rfl⟩
 |.cons n r,A,x,y,hw,hn=>by
  rw[u9,Bool.and_eq_true]at hw;have f:=jG hw.1;have e1:=hn.1;have e2:=iI k A (fst n) (nb n) (GS n);have a0:∀u:Bool,m_ [PV.str (nb n),PV.bl u] 0=some (.str (nb n)):=fun _=>rfl;have a1:∀u:Bool,m_ [PV.str (nb n),PV.bl u] 1=some (.bl u):=fun _=>rfl;have dr:ay hh (nd n)=nd n:=by cases n<;>rfl
  have body:cg (F (k+2)) [some t,some (.str (flt A)),some (nd n),y] hh=if vd n=true then .nx [some t,some (.str (flt fun d=>A d||fst n d)),some (nd n),some (.tup [.str (nb n),.bl (vd n)])] hh else .rt (.tup [.str (flt fun d=>A d||fst n d),.bl false]) hh:=by
   cases v:vd n with
   |true=>rw[v]at e1;simp only[EV,cg,ai,dr,f,e1,e2,a0,a1]
   |false=>rw[v]at e1;simp only[EV,cg,ai,dr,f,e1,e2,a0,a1]
  cases v:vd n with
  |true=>
   obtain⟨x',y',q⟩:=xq k t hh r (fun d=>A d||fst n d) (some (nd n)) (some (.tup [.str (nb n),.bl (vd n)])) hw.2 hn.2;refine⟨x',y',?_⟩;have ef:(flt fun d=>A d||bE (.cons n r) d)=flt fun d=>(A d||fst n d)||bE r d:=dJ fun d _=>by rw[bE,v,Bool.true_and,Bool.or_assoc]
   rw[ef,M7,v,Bool.true_and,← q,b_];show(match cg (F (k+2)) [some t,some (.str (flt A)),some (nd n),y] hh with|.nx ρ2 h2=>aZ (n8 2) (cg (F (k+2))) (b_ r) ρ2 h2|.ct ρ2 h2=>aZ (n8 2) (cg (F (k+2))) (b_ r) ρ2 h2|.bk ρ2 h2=>.nx ρ2 h2|.rt v h2=>.rt v h2|.exc v h2=>.exc v h2|.bad=>.bad)=_;rw[body,v];rfl
  |false=>
   refine⟨none,none,?_⟩;have ef:(flt fun d=>A d||bE (.cons n r) d)=flt fun d=>A d||fst n d:=dJ fun d _=>by rw[bE,v,Bool.false_and,Bool.or_false]
   rw[ef,M7,v,Bool.false_and,b_];show(match cg (F (k+2)) [some t,some (.str (flt A)),some (nd n),y] hh with|.nx ρ2 h2=>aZ (n8 2) (cg (F (k+2))) (b_ r) ρ2 h2|.ct ρ2 h2=>aZ (n8 2) (cg (F (k+2))) (b_ r) ρ2 h2|.bk ρ2 h2=>.nx ρ2 h2|.rt v h2=>.rt v h2|.exc v h2=>.exc v h2|.bad=>.bad)=_;rw[body,v];rfl
theorem xp(k:Nat)(ns:j9)(hw:u9 ns=true)(hn:NB (k+2) ns):F (k+3) .begins [.tup (b_ ns)]=.ok (.tup [.str (flt (bE ns)),.bl (M7 ns)]):=by
 show aJ (iM (F (k+2))) 1 4 [.tup (b_ ns)]=_;obtain⟨x',y',q⟩:=xq k (.tup (b_ ns)) [] ns (fun _=>false) none none hw hn;have e0:flt (fun _=>false)=[]:=by decide
 have e1:(flt fun d=>false||bE ns d)=flt (bE ns):=dJ fun d _=>Bool.false_or _;rw[e0,e1]at q
 cases v:M7 ns with
 |true=>rw[v]at q;simp only[EV,aJ,iM,q,cW,Ug]
 |false=>rw[v]at q;simp only[EV,aJ,iM,q,cW,Ug]
mutual
theorem Jd:∀n:Nd,wf n=true→∀k,4 * K_ n+6≤k→F k .p8 [nd n]=.ok (.tup [.str (nb n),.bl (vd n)])
 |.text c s,h,k,hk=>by
  obtain⟨j,rfl⟩:∃j,k=j+1:=⟨k - 1,by omega⟩
  exact Du j (by simpa[wf]using h)
 |.place p w,h,k,hk=>by
  rw[wf,Bool.and_eq_true]at h;obtain⟨j,rfl⟩:∃j,k=j+6:=⟨k - 6,by omega⟩
  exact AN j p w (of_decide_eq_true h.2)
 |.loop m p ns b,h,k,hk=>by
  rw[wf,Bool.and_eq_true,Bool.and_eq_true]at h;rw[K_]at hk;obtain⟨j,rfl⟩:∃j,k=j+4:=⟨k - 4,by omega⟩
  have b1:=xp j ns h.1.2 (nX ns h.1.2 (j+2) (by omega));have b2:=iI (j+1) (bE ns) (fun d=>M7 ns&&(b.take 1).contains d) (if M7 ns=true then b.take 1 else[]) (fun d _=>by cases M7 ns<;>simp);have f:=cx h.1.2;have hb:b.length≤16777216:=Nat.le_trans (hV h.2) (by decide);show aJ (bq (F (j+3))) 1 6 [nd (.loop m p ns b)]=_;have e1:∀h,m9 (.str tL) (.str tT) h=.ok (.bl false) h:=fun h=>by kernel_rfl
  have e2:∀h,m9 (.str tL) (.str tP) h=.ok (.bl false) h:=fun h=>by kernel_rfl
  have e3:∀h,m9 (.str tL) (.str tL) h=.ok (.bl true) h:=fun h=>by kernel_rfl
  have a0:m_ [PV.str tL,PV.str m,p,PV.tup (b_ ns),PV.str b] 0=some (.str tL):=rfl;have a3:m_ [PV.str tL,PV.str m,p,PV.tup (b_ ns),PV.str b] 3=some (.tup (b_ ns)):=rfl;have a4:m_ [PV.str tL,PV.str m,p,PV.tup (b_ ns),PV.str b] 4=some (.str b):=rfl;have c0:∀u:Bool,m_ [PV.str (flt (bE ns)),PV.bl u] 0=some (.str (flt (bE ns))):=fun _=>rfl;have c1:∀u:Bool,m_ [PV.str (flt (bE ns)),PV.bl u] 1=some (.bl u):=fun _=>rfl
  cases v:M7 ns with
  |true=>rw[v]at b1 b2;simp only[if_true]at b2;simp only[EV,aJ,bq,nd,a0,a3,a4,e1,e2,e3,ai,f,b1,b2,c0,c1,yI,hb,cW,Ug,nb,vd,v]
  |false=>rw[v]at b1 b2;simp only[Bool.false_eq_true,if_false]at b2;simp only[EV,aJ,bq,nd,a0,a3,a4,e1,e2,e3,ai,f,b1,b2,c0,c1,yI,hb,cW,Ug,nb,vd,v]
 |.choice p y n,h,k,hk=>by
  rw[wf,Bool.and_eq_true,Bool.and_eq_true]at h;rw[K_]at hk;obtain⟨j,rfl⟩:∃j,k=j+4:=⟨k - 4,by omega⟩
  have b1:=xp j y h.1.2 (nX y h.1.2 (j+2) (by omega));have b3:=xp j n h.2 (nX n h.2 (j+2) (by omega));have b2:=iI (j+1) (bE y) (bE n) (flt (bE n)) (fun d hd=>fR hd);have f1:=cx h.1.2;have f2:=cx h.2;show aJ (bq (F (j+3))) 1 6 [nd (.choice p y n)]=_;have e1:∀h,m9 (.str tC) (.str tT) h=.ok (.bl false) h:=fun h=>by kernel_rfl
  have e2:∀h,m9 (.str tC) (.str tP) h=.ok (.bl false) h:=fun h=>by kernel_rfl
  have e3:∀h,m9 (.str tC) (.str tL) h=.ok (.bl false) h:=fun h=>by kernel_rfl
  have a0:m_ [PV.str tC,p,PV.tup (b_ y),PV.tup (b_ n)] 0=some (.str tC):=rfl;have a2:m_ [PV.str tC,p,PV.tup (b_ y),PV.tup (b_ n)] 2=some (.tup (b_ y)):=rfl;have a3:m_ [PV.str tC,p,PV.tup (b_ y),PV.tup (b_ n)] 3=some (.tup (b_ n)):=rfl;have c0:∀(g:Nat→Bool)(u:Bool),m_ [PV.str (flt g),PV.bl u] 0=some (.str (flt g)):=fun _ _=>rfl;have c1:∀(g:Nat→Bool)(u:Bool),m_ [PV.str (flt g),PV.bl u] 1=some (.bl u):=fun _ _=>rfl
  cases v:M7 y with
  |true=>rw[v]at b1;simp only[EV,aJ,bq,nd,a0,a2,a3,e1,e2,e3,ai,f1,f2,b1,b2,b3,c0,c1,cW,Ug,nb,vd,v]
  |false=>rw[v]at b1;simp only[EV,aJ,bq,nd,a0,a2,a3,e1,e2,e3,ai,f1,f2,b1,b2,b3,c0,c1,cW,Ug,nb,vd,v]
theorem nX:∀ns:j9,u9 ns=true→∀k,4 * aO ns+6≤k→NB k ns
 |.nil,_,_,_=>True.intro
 |.cons n r,h,k,hk=>by rw[u9,Bool.and_eq_true]at h;rw[aO]at hk;exact⟨Jd n h.1 k (by omega),nX r h.2 k (by omega)⟩
end
theorem BC(ns:j9)(hw:u9 ns=true)(k:Nat)(hk:4 * aO ns+7≤k):F k .begins [.tup (b_ ns)]=.ok (.tup [.str (flt (bE ns)),.bl (M7 ns)]):=by
 obtain⟨j,rfl⟩:∃j,k=j+3:=⟨k - 3,by omega⟩
 exact xp j ns hw (nX ns hw (j+2) (by omega))
def fd(d:Nat)(p:PV):Prop:=(toD p).canLay0=true∧(toD p).depth≤d∧p.pure=true
def fds(d:Nat)(l:List PV):Prop:=PyData.canLayAll0 (fU l)=true∧PyData.depthAll (fU l)≤d∧aI l=true
theorem iY(d:Nat):fds d []:=⟨by simp[fU,PyData.canLayAll0],by simp[fU,PyData.depthAll],by simp[aI]⟩
theorem bK{d:Nat}{p:PV}{l:List PV}(h:fd d p)(t:fds d l):fds d (p::l):=by
 refine⟨?_,?_,?_⟩
 ·simp only[fU,PyData.canLayAll0,h.1,t.1,Bool.and_self]
 ·simp only[fU,PyData.depthAll];exact Nat.max_le.mpr ⟨h.2.1,t.2.1⟩
 ·simp only[aI,h.2.2,t.2.2,Bool.and_self]
theorem Ho{d:Nat}{l:List PV}(h:fds d l):fd (d+1) (.lst l):=by
 refine⟨?_,?_,?_⟩
 ·simp only[toD,PyData.canLay0,h.1]
 ·simp only[toD,PyData.depth];have:=h.2.1;omega
 ·simpa[PV.pure]using h.2.2
theorem jI{d:Nat}{l:List PV}(h:fds d l):fd (d+1) (.tup l):=by
 refine⟨?_,?_,?_⟩
 ·simp only[toD,PyData.canLay0,h.1]
 ·simp only[toD,PyData.depth];have:=h.2.1;omega
 ·simpa[PV.pure]using h.2.2
theorem gu{d e:Nat}{p:PV}(h:fd d p)(le:d≤e):fd e p:=⟨h.1,Nat.le_trans h.2.1 le,h.2.2⟩
theorem ox{d e:Nat}{l:List PV}(h:fds d l)(le:d≤e):fds e l:=⟨h.1,Nat.le_trans h.2.1 le,h.2.2⟩
theorem vx(d:Nat){l:List Nat}(hl:∀c∈l,c<1114112):fd d (.str l):=by have:=uQ [] hl;unfold Qp at this;exact⟨((Bool.and_eq_true _ _).mp this).1,by simp[toD,PyData.depth],by simp[PV.pure]⟩
theorem Hx(xs:List PV)(p:PV):ba (.ref 0) [p] [.lst xs]=if xs.length<16777216 then .ok .non [.lst (xs++ [p])]else .bad:=rfl
mutual
def Qo:Nd→Nat
 |.text _ _=>0
 |.place _ _=>0
 |.loop _ _ ns _=>dS ns
 |.choice _ y n=>max (dS y) (dS n)
def dS:j9→Nat
 |.nil=>0
 |.cons n r=>max (Qo n) (dS r+1)
end
theorem iw:∀ns:j9,(b_ ns).length≤dS ns
 |.nil=>by simp[b_,dS]
 |.cons n r=>by have:=iw r;rw[b_,dS,List.length_cons];omega
theorem DV(acc:List PV)(h:aI acc=true):cW (.ref 0) [.lst acc]=.ok (.lst acc):=by unfold cW cC;simp only[List.getElem?_cons_zero,h,if_true]
theorem bR{p:PV}{h:List L3.PO}(hp:p.pure=true):cW p h=.ok p:=by unfold cW;rw[cH h hp]
mutual
def tz:Nd→Nat
 |.text _ s=>s.length+1
 |.place _ _=>10
 |.loop _ _ ns b=>M9 ns+b.length
 |.choice _ y n=>M9 y+M9 n
def M9:j9→Nat
 |.nil=>0
 |.cons n r=>tz n+M9 r
end
structure Gd(ns:j9):Prop where
 w:u9 ns=true
 d:aO ns≤23
 l:dS ns≤16777216
 z:M9 ns≤8000000
theorem iG(k:Nat):F (k+1) .j_ []=.ok (.str aF):=by kernel_rfl
theorem mQ{p:PV}(h:p.pure=true):∀i,p≠.ref i:=fun i e=>by subst e;simp[PV.pure]at h
theorem sV:∀{l:List PV},aI l=true→QX l= []∧(∀n,Ri n l=l)∧jf l=true
 |[],_=>⟨rfl,fun _=>rfl,rfl⟩
 |p::r,h=>by
  rw[aI,Bool.and_eq_true]at h;obtain⟨a,b,c⟩:=sV h.2;have nr:=mQ h.1;refine⟨?_,fun n=>?_,?_⟩
  ·cases p<;>first|exact a|exact(nr _ rfl).elim
  ·cases p<;>first|exact congrArg _ (b n)|exact(nr _ rfl).elim
  ·have e:jf (p::r)=(p.pure&&jf r):=by cases p<;>first|rfl|exact(nr _ rfl).elim
   rw[e,h.1,c];rfl
theorem qq{fn:List PV→List PO→Res PV}{p v:PV}{rest:List PV}{h:List PO}{i:Nat}{o o':PO}(hp:p.pure=true)(hr:aI rest=true)(ho:h[i]? =some o)(oo:o.pure=true)(e:fn (p::.ref 0::rest) [o]=.ok v [o'])(hv:v.pure=true)(RZ:o'.pure=true):
  gR fn (p::.ref i::rest) h=.ok v (h.set i o'):=by
 obtain⟨a,b,c⟩:=sV hr;have nr:=mQ hp
 have e1:QX (p::.ref i::rest)=[i]:=by
  have:QX (p::.ref i::rest)=QX (.ref i::rest):=by cases p<;>first|rfl|exact(nr _ rfl).elim
  rw[this];show i::QX rest=_;rw[a]
 have e2:Ri 0 (p::.ref i::rest)=p::.ref 0::rest:=by
  have:Ri 0 (p::.ref i::rest)=p::Ri 0 (.ref i::rest):=by cases p<;>first|rfl|exact(nr _ rfl).elim
  rw[this];show p::.ref 0::Ri 1 rest=_;rw[b]
 have e3:jf (p::.ref i::rest)=true:=by
  have:jf (p::.ref i::rest)=(p.pure&&jf (.ref i::rest)):=by cases p<;>first|rfl|exact(nr _ rfl).elim
  rw[this,hp];exact c
 have e4:fJ h [i]=some [o]:=by simp[fJ,ho]
 have e5:bS [o]=true:=by simp[bS,oo]
 have e6:jz [i]=true:=by simp[jz]
 unfold gR;rw[e1,e4];simp only[e2,e3,e5,e6,Bool.and_self,if_true,e];rw[if_pos ⟨hv,by simp[bS,RZ],rfl⟩];rfl
abbrev o8(n:Int):PO:=.lst [.int n,.int 24]
theorem kM(n:Int):(o8 n).pure=true:=by simp[PO.pure,aI,PV.pure]
theorem lO(k:Nat)(cs:List Int)(hc:cs.length≤32)(n:Int)(h0:0≤n)(h1:n≤1000000):∃v,0≤v∧v<400000000∧L (k+1) .D_ [.lst (cs.map PV.int),.ref 0] [o8 n]=.ok (.int v) [o8 (n+1)]:=by
 have Ue:∀m:Int,d7 (.ref 0) (.int 0) [o8 m]=.ok (.int m) [o8 m]:=fun m=>rfl;have d0:∀m:Int,ay [o8 m] (.ref 0)=.ref 0:=fun m=>rfl;have st:∀ ρ,jq (.int (n+1)) (.ref 0) (.int 0) ρ [o8 n]=.nx ρ [o8 (n+1)]:=fun ρ=>rfl;have ln:∀h,gI [.lst (cs.map PV.int)] h=.ok (.int cs.length) h:=fun h=>by rw[EI,List.length_map]
 have m1:∀x:Int,je 31 x=true:=fun x=>nY (by decide);have m2:∀x:Int,je 7919 x=true:=fun x=>nY (by decide);have m3:∀x:Int,je x (n+1)=true:=fun x=>mi (du.mpr ⟨by omega,by omega⟩);have m4:∀x:Int,je x 48271=true:=fun x=>mi (by decide);have p1:decide ((0:Int)<2147483647)=true:=by decide
 have p2:decide ((0:Int)<7∧(7:Int)<1073741824)=true:=by decide
 have fin:∀b:Int,0≤b * 48271 % 2147483647 / 7∧b * 48271 % 2147483647 / 7<400000000:=fun b=>by omega
 have ct:∀v:Int,qZ 1 (.int v) [o8 (n+1)]=.ok (.int v) [o8 (n+1)]:=fun v=>rfl
 cases cs with
 |nil=>
  refine⟨_,(fin (31 * (n+1) * (n+1)+7919 * (n+1))).1,(fin _).2,?_⟩;show hJ (gV (F k)) 2 4 [.lst [],.ref 0] [o8 n]=_;have ln0:∀h,gI [.lst []] h=.ok (.int 0) h:=fun h=>rfl;have g0:decide ((0:Int)<0)=false:=by decide
  simp only[EV,hJ,gV,Ue,d0,st,ln0,m1,m2,m3,m4,p1,p2,ct,Int.reduceLT]
 |cons a r=>
  have YM:(0:Int)<(((a::r).length:Nat):Int):=by rw[List.length_cons];omega
  have hl1:(((a::r).length:Nat):Int)<1073741824:=by omega
  have q0:0≤(n+1) % (((a::r).length:Nat):Int):=Int.emod_nonneg _ (by omega);have q1:(n+1) % (((a::r).length:Nat):Int)<(((a::r).length:Nat):Int):=Int.emod_lt_of_pos _ YM
  have ax:m_ ((a::r).map PV.int) ((n+1) % (((a::r).length:Nat):Int))=some (.int ((a::r).getD ((n+1) % (((a::r).length:Nat):Int)).toNat 0)):=by refine cU q0 ?_;rw[List.getElem?_map,List.getD_eq_getElem?_getD,List.getElem?_eq_getElem (by omega)];rfl
  have dv0:0≤(n+1) / (((a::r).length:Nat):Int):=Int.ediv_nonneg (by omega) (by omega);have dv1:(n+1) / (((a::r).length:Nat):Int)≤n+1:=Int.ediv_le_self _ (by omega);have m5:∀x:Int,je x (1+(n+1) / (((a::r).length:Nat):Int))=true:=fun x=>mi (du.mpr ⟨by omega,by omega⟩);have p3:decide ((0:Int)<(((a::r).length:Nat):Int))=true:=decide_eq_true YM;have p4:decide ((0:Int)<(((a::r).length:Nat):Int)∧(((a::r).length:Nat):Int)<1073741824)=true:=decide_eq_true ⟨YM,hl1⟩;have g1:decide ((0:Int)<(((a::r).length:Nat):Int))=true:=p3;generalize hL:(((a::r).length:Nat):Int)=Ln at*;generalize hC:(a::r).map PV.int=cl at*;refine⟨_,(fin (31 * (n+1) * (n+1)+7919 * (n+1)+(a::r).getD ((n+1) % Ln).toNat 0 * (1+(n+1) / Ln))).1,(fin _).2,?_⟩;show hJ (gV (F k)) 2 4 [.lst cl,.ref 0] [o8 n]=_;simp only[EV,hJ,gV,Ue,d0,st,ln,g1,ax,m1,m2,m3,m4,m5,p1,p2,p3,p4,ct]
def J6(i:Int):Nat:=aF.getD (i % 95).toNat 0
theorem jo(i:Int):m_ aF (i % 95)=some (J6 i):=lS 0 (Int.emod_nonneg _ (by decide)) (by
 have:(aF.length:Int)=95:=by decide
 rw[this];exact Int.emod_lt_of_pos _ (by decide))
theorem qI(i:Int):J6 i∈aF:=by
 unfold J6;refine lF ?_;have h0:=Int.emod_nonneg i (by decide:(95:Int)≠0);have h1:=Int.emod_lt_of_pos i (by decide:(0:Int)<95);have:aF.length=95:=by decide
 rw[this];omega
theorem xO:aF.length≤16777216:=by decide
theorem sO(f:Nat→Nat)(m:Nat):(((List.range m).map fun i=> [f i]).flatten)=(List.range m).map f:=by
 induction m with
 |zero=>rfl
 |succ m ih=>rw[List.range_succ,List.map_append,List.flatten_append,ih,List.map_append];rfl
theorem vZ(k:Nat)(n:Int):∃c s,F (k+2) .Mr [.int n]=.ok (.str (c::s))∧(c::s).length≤3∧J_ (c::s)=true:=by
 have h0:=Int.emod_nonneg n (by decide:(3:Int)≠0);have h1:=Int.emod_lt_of_pos n (by decide:(0:Int)<3);have z0:=Int.emod_nonneg (n / 300) (by decide:(94:Int)≠0);have z1:=Int.emod_lt_of_pos (n / 300) (by decide:(0:Int)<94);have mk:=iG k
 let f:Nat→Nat:=fun i=>J6 (n / 3+(0+(i:Int)) * (1+n / 300 % 94));have p1:decide ((0:Int)<95)=true:=by decide
 have p2:decide ((0:Int)<3∧(3:Int)<1073741824)=true:=by decide
 have p3:decide ((0:Int)<300∧(300:Int)<1073741824)=true:=by decide
 have p4:decide ((0:Int)<94)=true:=by decide
 have p5:decide ((0:Int)<3)=true:=by decide
 have m1:∀x:Int,je x (1+n / 300 % 94)=true:=fun x=>mi (du.mpr ⟨by omega,by omega⟩);have sl:=xO
 have cm:∀h,be bX (kC (F (k+1))) [some (.int n)] ((List.range (1+n % 3).toNat).map fun i=>PV.int (0+(i:Nat))) h=.ok ((((List.range (1+n % 3).toNat).map fun i=> [f i])).map PV.str) h:=fun h=>by
  rw[gy (f:=fun p=>match p with|.int i=>.str [J6 (n / 3+i * (1+n / 300 % 94))]|_=>.non) _ (fun p hp=>by obtain⟨i,hi,rfl⟩:=List.mem_map.mp hp;have Zj:=jo (n / 3+(0+(i:Int)) * (1+n / 300 % 94));simp only[EV,kC,ai,mk,p1,p2,p3,p4,m1,Zj,sl]),List.map_map,List.map_map]
  rfl
 have bl:Rv 4611686018427387904 (1+n % 3)=true:=du.mpr ⟨by omega,by omega⟩
 have jn:∀h,ie (.str []) [.lst ((((List.range (1+n % 3).toNat).map fun i=> [f i])).map PV.str)] h=.ok (.str ((List.range (1+n % 3).toNat).map fun i=> [f i]).flatten) h:=fun h=>qP (by rw[kL _ (fun x hx=>by obtain⟨c,_,rfl⟩:=List.mem_map.mp hx;rfl),List.length_map,List.length_range];omega)
 have ln:((List.range (1+n % 3).toNat).map fun i=>PV.int (0+(i:Nat))).length<16777216:=by rw[List.length_map,List.length_range];omega
 have cp:∀ ρ:Ev,dL [0] (some (PV.int n)::ρ)=[some (.int n)]:=fun _=>rfl
 have key:F (k+2) .Mr [.int n]=.ok (.str ((List.range (1+n % 3).toNat).map f)):=by show aJ (jO (F (k+1))) 1 1 [.int n]=_;have fr:∀l,cW (.str l) []=.ok (.str l):=fun _=>rfl;simp only[EV,aJ,jO,p5,bl,ln,cp,cm,jn,sO,fr]
 obtain⟨m,hm⟩:∃m:Nat,(1+n % 3).toNat=m+1:=⟨(n % 3).toNat,by omega⟩
 rw[key,hm,List.range_succ_eq_map,List.map_cons];refine⟨_,_,rfl,?_,?_⟩
 ·rw[List.length_cons,List.length_map,List.length_map,List.length_range];omega
 ·unfold J_;rw[List.all_eq_true];intro c hc;rcases List.mem_cons.mp hc with q|q
  ·rw[q];exact List.contains_iff_mem.mpr (qI _)
  ·obtain⟨i,_,rfl⟩:=List.mem_map.mp q;exact List.contains_iff_mem.mpr (qI _)
theorem kw(n:Int):n % 3=0∨n % 3=1∨n % 3=2:=by omega
theorem nZ(n:Int):n % 4=0∨n % 4=1∨n % 4=2∨n % 4=3:=by omega
theorem uT(n:Int):n % 5=0∨n % 5=1∨n % 5=2∨n % 5=3∨n % 5=4:=by omega
noncomputable def Ra:List Nat:=[116,119,110]
theorem Fb(k:Nat)(c:Nat)(hc:c∈Ra)(n:Int):∃w,w<5∧F (k+1) .Pr [.str [c],.int n]=.ok (.str (O5 w)):=by
 have p1:decide ((0:Int)<64∧(64:Int)<1073741824)=true:=by decide
 have p2:decide ((0:Int)<9)=true:=by decide
 have p3:decide ((0:Int)<5)=true:=by decide
 have p4:decide ((0:Int)<3)=true:=by decide
 have p5:decide ((0:Int)<4)=true:=by decide
 have fr:∀l,cW (.str l) []=.ok (.str l):=fun _=>rfl
 obtain⟨w5,h5,a5⟩:∃w,w<5∧m_ [PV.str [119,111,114,100],.str [110,117,109,98,101,114],.str [113,117,111,116,101,100],.str [112,108,97,105,110],.str [108,105,110,101]] (n % 5)=some (.str (O5 w)):=by
  rcases uT n with q|q|q|q|q<;>rw[q]
  ·exact⟨0,by decide,rfl⟩
  ·exact⟨1,by decide,rfl⟩
  ·exact⟨2,by decide,rfl⟩
  ·exact⟨3,by decide,rfl⟩
  ·exact⟨4,by decide,rfl⟩
 obtain⟨w3,h3,a3⟩:∃w,w<5∧m_ [PV.str [112,108,97,105,110],.str [113,117,111,116,101,100],.str [108,105,110,101]] (n % 3)=some (.str (O5 w)):=by
  rcases kw n with q|q|q<;>rw[q]
  ·exact⟨3,by decide,rfl⟩
  ·exact⟨2,by decide,rfl⟩
  ·exact⟨4,by decide,rfl⟩
 obtain⟨w4,h4,a4⟩:∃w,w<5∧m_ [PV.str [119,111,114,100],.str [112,108,97,105,110],.str [113,117,111,116,101,100],.str [108,105,110,101]] (n % 4)=some (.str (O5 w)):=by
  rcases nZ n with q|q|q|q<;>rw[q]
  ·exact⟨0,by decide,rfl⟩
  ·exact⟨3,by decide,rfl⟩
  ·exact⟨2,by decide,rfl⟩
  ·exact⟨4,by decide,rfl⟩
 obtain⟨i,fd,hi⟩:∃i:Int,(∀h,wF (.str [110,116,119]) [.str [c]] h=.ok (.int i) h)∧(i=0∨i=1∨i=2):=by
  simp only[Ra,List.mem_cons,List.not_mem_nil,or_false]at hc;rcases hc with rfl|rfl|rfl
  ·exact⟨1,fun h=>by kernel_rfl,.inr (.inl rfl)⟩
  ·exact⟨2,fun h=>by kernel_rfl,.inr (.inr rfl)⟩
  ·exact⟨0,fun h=>by kernel_rfl,.inl rfl⟩
 obtain⟨wf,hf,af⟩:∃w,w<5∧m_ [PV.str [110,117,109,98,101,114],.str (O5 w3),.str (O5 w4)] i=some (.str (O5 w)):=by
  rcases hi with rfl|rfl|rfl
  ·exact⟨1,by decide,rfl⟩
  ·exact⟨w3,h3,rfl⟩
  ·exact⟨w4,h4,rfl⟩
 by_cases q:n / 64 % 9=1
 ·refine⟨w5,h5,?_⟩;show aJ (jb (F k)) 2 2 [.str [c],.int n]=_;simp only[EV,aJ,jb,cP,q,decide_true,p1,p2,p3,a5,fr]
 ·refine⟨wf,hf,?_⟩;show aJ (jb (F k)) 2 2 [.str [c],.int n]=_;simp only[EV,aJ,jb,cP,q,decide_false,p1,p2,p4,p5,a3,a4,fd,af,fr]
noncomputable def tl:j9→Nat
 |.nil=>0
 |.cons n r=>(match n with
  |.text _ s=>s.length+1
  |_=>0)+tl r
theorem mT{l:List Nat}(h:J_ l=true)(hl:l.length≤1000):txt l=true:=by unfold txt;rw[Bool.and_eq_true];exact⟨decide_eq_true (by omega),h⟩
theorem gn{a b:List Nat}(ha:J_ a=true)(hb:J_ b=true):J_ (a++b)=true:=by unfold J_ at*;rw[List.all_append,ha,hb];rfl
noncomputable def wm:j9→Nat
 |.nil=>0
 |.cons n r=>max (Qo n) (wm r)
theorem jV:∀ns:j9,dS ns≤wm ns+(b_ ns).length
 |.nil=>by simp[dS]
 |.cons n r=>by have:=jV r;rw[dS,wm,b_,List.length_cons];omega
def RL(w:Nat):List Nat:=match F 5 .J5 [.str (O5 w)]with
 |.ok (.ins C [])=>match ja (F 5) C with
  |some fn=>match fn [.ins C []]with
   |.ok (.str l)=>l
   |_=> []
  |none=> []
 |_=> []
noncomputable def hdT:j9→Option Nat
 |.cons (.text c _) _=>some c
 |_=>none
theorem wU(c:Nat)(s:List Nat)(r:j9):hdT (.cons (.text c s) r)=some c:=rfl
theorem EQ:hdT .nil=none:=rfl
noncomputable def Qs:j9→Bool
 |.nil=>true
 |_=>false
theorem EN:Qs .nil=true:=rfl
def RP(A:j9)(c:Nat):Bool:=Qs A||match hdT A with
 |some a=>decide (a≠c)
 |none=>false
mutual
def Ry:Nd→j9→Bool
 |.text _ _,_=>true
 |.place _ w,r=>match hdT r with
  |some c=>(RL w).contains c
  |none=>false
 |.loop _ _ ns b,r=>match hdT r,hdT ns with
  |some c,some s=>decide (s≠c)&&!(b.take 1).contains c&&Om ns
  |_,_=>false
 |.choice _ y n,r=>match hdT r with
  |some c=>RP y c&&RP n c&&!(Qs y&&Qs n)&&decide (hdT y≠hdT n)&&Om y&&Om n
  |none=>false
def Om:j9→Bool
 |.nil=>true
 |.cons n r=>Ry n r&&Om r
end
structure Fw(u:Bool)(ns:j9)(b a t z:Nat):Prop where
 w:u9 ns=true
 d:aO ns≤b
 n:(b_ ns).length≤a
 l:wm ns≤12 * b
 t:tl ns≤t
 z:M9 ns≤z
 c:u=true→Om ns=true
theorem Fw.up{u v:Bool}{ns:j9}{b a t z:Nat}(h:Fw v ns b a t z)(c:u=true→Om ns=true):Fw u ns b a t z:=⟨h.w,h.d,h.n,h.l,h.t,h.z,c⟩
noncomputable def bh(w:Nat):List Nat:=[[32,46,59,60,10],[32,46,59,60,10],[32,46,59,60,10],[10,38,60,62,124],[10,10,10,10,10]].getD w []
noncomputable def D2:List (PK×PV):=[(.inr [112,108,97,105,110],.str [10,38,60,62,124]),(.inr [108,105,110,101],.str [10,10,10,10,10])]
theorem JS(ρ:Ev)(h:List L3.PO):mJ [(aam,aaP),(aak,(cK (.str [10,10,10,10,10])))] ρ h=.ok (.dct D2) h:=rfl
theorem HG:∀w,w<5→jk D2 (.inr (O5 w))=some (.str (bh w))∨(jk D2 (.inr (O5 w))=none∧bh w= [32,46,59,60,10])
 |0,_=>.inr ⟨rfl,rfl⟩
 |1,_=>.inr ⟨rfl,rfl⟩
 |2,_=>.inr ⟨rfl,rfl⟩
 |3,_=>.inl rfl
 |4,_=>.inl rfl
 |n+5,h=>absurd h (by omega)
theorem Hv:∀w,w<5→(bh w).length=5∧J_ (bh w)=true∧((bh w).all fun b=>(RL w).contains b)=true
 |0,_=>⟨rfl,by kernel_rfl,by kernel_rfl⟩
 |1,_=>⟨rfl,by kernel_rfl,by kernel_rfl⟩
 |2,_=>⟨rfl,by kernel_rfl,by kernel_rfl⟩
 |3,_=>⟨rfl,by kernel_rfl,by kernel_rfl⟩
 |4,_=>⟨rfl,by kernel_rfl,by kernel_rfl⟩
 |n+5,h=>absurd h (by omega)
theorem Am(k:Nat)(p:PV)(hp:dP p=true)(c:Nat)(hc:c∈Ra)(u:Bool)(n:Int):∃ns,F (k+4) .G_ [p,.str [c],.bl u,.int n]=.ok (.lst (b_ ns))∧Fw u ns 0 2 4 14∧1≤(b_ ns).length:=by
 obtain⟨w,hw,ew⟩:=Fb (k+2) c hc n;obtain⟨x,s,et,el,eo⟩:=vZ (k+1) (n / 7);have m0:=Int.emod_nonneg (n / 576) (by decide:(5:Int)≠0);have m1:=Int.emod_lt_of_pos (n / 576) (by decide:(0:Int)<5);have p1:decide ((0:Int)<5∧(5:Int)<1073741824)=true:=by decide
 have p2:decide ((0:Int)<3)=true:=by decide
 have p3:decide ((0:Int)<576∧(576:Int)<1073741824)=true:=by decide
 have p4:decide ((0:Int)<5)=true:=by decide
 have p5:decide ((0:Int)<7∧(7:Int)<1073741824)=true:=by decide
 have dp:∀h,ay h p=p:=fun h=>by cases p<;>first|rfl|cases hp
 obtain⟨Zh,bok,ben⟩:=Hv w hw;have ab:=lS (xs:=bh w) (i:=n / 576 % 5) 0 m0 (by rw[Zh];exact m1);have bm:(bh w).getD (n / 576 % 5).toNat 0∈bh w:=lF (by rw[Zh];omega);generalize hb:(bh w).getD (n / 576 % 5).toNat 0=b at ab bm;have bz:(bh w).length≤16777216:=by rw[Zh];decide
 have blt:aF.contains b=true:=List.all_eq_true.mp bok b bm;have dd:=JS;have dc:∀h,Ru h (.dct D2)=some D2:=fun _=>rfl;have ky:eS (.str (O5 w))=some (.inr (O5 w)):=rfl;have vp:=HG w hw;have al:1+(s.length+1)≤16777216:=by rw[List.length_cons]at el;omega
 have pl:(PV.tup [.str tP,p,.str (O5 w)]).pure=true:=by simp[PV.pure,aI,fS hp]
 have fr1:cW (.lst [PV.tup [.str tP,p,.str (O5 w)]]) []=.ok (.lst [PV.tup [.str tP,p,.str (O5 w)]]):=bR (by rw[PV.pure,aI,pl];rfl);have XM:cW (.lst [PV.tup [.str tP,p,.str (O5 w)],PV.tup [.str tT,.str (b::x::s)]]) []=.ok (.lst [PV.tup [.str tP,p,.str (O5 w)],PV.tup [.str tT,.str (b::x::s)]]):=bR (by rw[PV.pure,aI,pl];simp[aI,PV.pure]);have wp:wf (.place p w)=true:=by rw[wf,hp,decide_eq_true hw];rfl
 have wt:wf (.text b (x::s))=true:=by
  rw[wf];refine mT ?_ (by rw[List.length_cons];omega);have:J_ [b]=true:=by unfold J_;rw[List.all_cons,blt];rfl
  exact gn (a:=[b]) this eo
 have one:¬ u=true→F (k+4) .G_ [p,.str [c],.bl u,.int n]=.ok (.lst [PV.tup [.str tP,p,.str (O5 w)]])→∃ns,F (k+4) .G_ [p,.str [c],.bl u,.int n]=.ok (.lst (b_ ns))∧Fw u ns 0 2 4 14∧1≤(b_ ns).length:=fun hu e=>⟨.cons (.place p w) .nil,by rw[e];simp[b_,nd],⟨by rw[u9,wp];rfl,by simp[aO,K_],by simp[b_],by simp[wm,Qo],by simp[tl],by simp[M9,tz],fun q=>absurd q hu⟩,by simp[b_]⟩
 have two:F (k+4) .G_ [p,.str [c],.bl u,.int n]=.ok (.lst [PV.tup [.str tP,p,.str (O5 w)],PV.tup [.str tT,.str (b::x::s)]])→∃ns,F (k+4) .G_ [p,.str [c],.bl u,.int n]=.ok (.lst (b_ ns))∧Fw u ns 0 2 4 14∧1≤(b_ ns).length:=fun e=>by rw[List.length_cons]at el;exact⟨.cons (.place p w) (.cons (.text b (x::s)) .nil),by rw[e];simp[b_,nd],⟨by rw[u9,u9,wp,wt];rfl,by simp[aO,K_],by simp[b_],by simp[wm,Qo],by simp only[tl,List.length_cons];omega,by simp only[M9,tz,List.length_cons];omega,fun _=>by simp only[Om,Ry,hdT,List.all_eq_true.mp ben b bm];rfl⟩,by simp[b_]⟩
 cases u with
 |true=>
  refine two ?_;show aJ (cR (F (k+3))) 4 7 [p,.str [c],.bl true,.int n]=_;rcases vp with v|⟨v,v2⟩
  ·simp only[EV,aJ,cR,dp,ai,ew,p1,p2,p3,p4,p5,dd,dc,ky,v,ab,bz,et,al,XM]
  ·rw[v2]at ab bz;simp only[EV,aJ,cR,dp,ai,ew,p1,p2,p3,p4,p5,dd,dc,ky,v,ab,bz,et,al,XM]
 |false=>
  by_cases q:0<n / 5 % 3
  ·refine one (by decide) ?_;show aJ (cR (F (k+3))) 4 7 [p,.str [c],.bl false,.int n]=_;simp only[EV,aJ,cR,dp,ai,ew,p1,p2,q,decide_true,fr1]
  ·refine two ?_;show aJ (cR (F (k+3))) 4 7 [p,.str [c],.bl false,.int n]=_;rcases vp with v|⟨v,v2⟩
   ·simp only[EV,aJ,cR,dp,ai,ew,p1,p2,p3,p4,p5,q,decide_false,dd,dc,ky,v,ab,bz,et,al,XM]
   ·rw[v2]at ab bz;simp only[EV,aJ,cR,dp,ai,ew,p1,p2,p3,p4,p5,q,decide_false,dd,dc,ky,v,ab,bz,et,al,XM]
noncomputable def O6:j9→Nd→j9
 |.nil,m=>.cons m .nil
 |.cons n r,m=>.cons n (O6 r m)
noncomputable def apN:j9→j9→j9
 |.nil,B=>B
 |.cons n r,B=>.cons n (apN r B)
theorem um:∀(A:j9)(m:Nd),O6 A m=apN A (.cons m .nil)
 |.nil,m=>by rw[O6,apN]
 |.cons n r,m=>by rw[O6,apN,um r m]
theorem eX(B:j9):apN .nil B=B:=by rw[apN]
theorem mC:∀A B C:j9,apN (apN A B) C=apN A (apN B C)
 |.nil,B,C=>by rw[eX,eX]
 |.cons n r,B,C=>by rw[apN,apN,apN,mC r B C]
theorem jW(A:j9)(m:Nd)(r:j9):apN (O6 A m) r=apN A (.cons m r):=by rw[um,mC,apN,eX]
theorem Bh(B:j9)(d:Nat)(u v:List Nat)(X Y:j9):hdT (apN B (.cons (.text d u) X))=hdT (apN B (.cons (.text d v) Y)):=by
 cases B with
 |nil=>rfl
 |cons n r=>cases n<;>rfl
theorem zi(n:Nd){X Y:j9}(h:hdT X=hdT Y):Ry n X=Ry n Y:=by cases n<;>simp only[Ry,h]
theorem wa(d:Nat)(u v:List Nat)(c:Nat)(s:List Nat)(r:j9):∀B:j9,Om (apN B (.cons (.text d u) (.cons (.text c s) r)))=true→Om (apN B (.cons (.text d v) r))=true
 |.nil,h=>by rw[eX]at h ⊢;simp only[Om,Ry,Bool.true_and]at h ⊢;exact h
 |.cons n B,h=>by rw[apN,Om,Bool.and_eq_true]at h ⊢;exact⟨(zi n (Bh B d u v _ _)).symm.trans h.1,wa d u v c s r B h.2⟩
theorem ze:∀A B:j9,Om A=true→Om B=true→Om (apN A B)=true
 |.nil,B,_,h=>by rw[eX];exact h
 |.cons n r,B,h,g=>by
  rw[Om,Bool.and_eq_true]at h;rw[apN,Om,Bool.and_eq_true];refine⟨?_,ze r B h.2 g⟩
  cases r with
  |cons m q=>
   have e:hdT (apN (.cons m q) B)=hdT (.cons m q):=by cases m<;>rfl
   rw[zi n e];exact h.1
  |nil=>
   have h1:=h.1
   cases n with
   |text c s=>rfl
   |place p w=>simp[Ry,hdT]at h1
   |loop m p ns b=>simp[Ry,hdT]at h1
   |choice p y n=>simp[Ry,hdT]at h1
theorem dk:∀(B:j9)(m:Nd),b_ (O6 B m)=b_ B++ [nd m]
 |.nil,m=>by simp[O6,b_]
 |.cons n r,m=>by rw[O6,b_,dk r m,b_];rfl
theorem mN:∀(B:j9)(m:Nd),u9 (O6 B m)=(u9 B&&wf m)
 |.nil,m=>by simp[O6,u9]
 |.cons n r,m=>by rw[O6,u9,mN r m,u9,Bool.and_assoc]
theorem lI:∀(B:j9)(m:Nd),aO (O6 B m)=max (aO B) (K_ m)
 |.nil,m=>by simp[O6,aO]
 |.cons n r,m=>by rw[O6,aO,lI r m,aO,Nat.max_assoc]
theorem qB:∀(B:j9)(m:Nd),wm (O6 B m)=max (wm B) (Qo m)
 |.nil,m=>by simp[O6,wm]
 |.cons n r,m=>by rw[O6,wm,qB r m,wm,Nat.max_assoc]
noncomputable def tl1:Nd→Nat
 |.text _ s=>s.length+1
 |_=>0
theorem hX(n:Nd)(r:j9):tl (.cons n r)=tl1 n+tl r:=by cases n<;>rfl
theorem nq:∀(B:j9)(m:Nd),tl (O6 B m)=tl B+tl1 m
 |.nil,m=>by rw[O6,hX];simp[tl]
 |.cons n r,m=>by rw[O6,hX,nq r m,hX];omega
theorem mO:∀(B:j9)(m:Nd),M9 (O6 B m)=M9 B+tz m
 |.nil,m=>by simp[O6,M9]
 |.cons n r,m=>by rw[O6,M9,mO r m,M9];omega
theorem pC:∀A:j9,A=.nil∨∃B m,A=O6 B m
 |.nil=>.inl rfl
 |.cons n r=>by
  rcases pC r with rfl|⟨B,m,rfl⟩
  ·exact .inr ⟨.nil,n,rfl⟩
  ·exact .inr ⟨.cons n B,m,rfl⟩
theorem Bp{p:PV}(h:dP p=true):fd 1 p:=by
 cases p with
 |tup xs=>
  refine jI ?_
  have key:∀{xs:List PV},kb xs=true→fds 0 xs:=by
   intro xs
   induction xs with
   |nil=>intro _;exact iY 0
   |cons x r ih=>
    intro h
    cases x with
    |str l=>rw[kb,Bool.and_eq_true]at h;exact bK (vx 0 (mh h.1)) (ih h.2)
    |_=>cases h
  exact key h
 |_=>cases h
theorem Fa:∀w,w<5→J_ (O5 w)=true
 |0,_=>rfl
 |1,_=>rfl
 |2,_=>rfl
 |3,_=>rfl
 |4,_=>rfl
 |n+5,h=>absurd h (by omega)
theorem jJ(d:Nat){l:List Nat}(h:J_ l=true):fd d (.str l):=vx d (mh h)
mutual
theorem Jb:∀n:Nd,wf n=true→fd (2 * K_ n+2) (nd n)
 |.text c s,h=>by rw[wf]at h;rw[nd];exact gu (jI (d:=0) (bK (jJ 0 rfl) (bK (jJ 0 (eN h)) (iY _)))) (by omega)
 |.place p w,h=>by rw[wf,Bool.and_eq_true]at h;rw[nd];exact gu (jI (d:=1) (bK (jJ 1 rfl) (bK (Bp h.1) (bK (jJ 1 (Fa w (of_decide_eq_true h.2))) (iY _))))) (by omega)
 |.loop m p ns b,h=>by rw[wf,Bool.and_eq_true,Bool.and_eq_true,dQ,Bool.and_eq_true]at h;rw[nd,K_];exact gu (jI (d:=2 * aO ns+3) (bK (jJ _ rfl) (bK (jJ _ h.1.1.1) (bK (gu (Bp h.1.1.2) (by omega)) (bK (jI (lh ns h.1.2)) (bK (jJ _ (eN h.2)) (iY _))))))) (by omega)
 |.choice p y n,h=>by rw[wf,Bool.and_eq_true,Bool.and_eq_true]at h;rw[nd,K_];exact gu (jI (d:=2 * max (aO y) (aO n)+3) (bK (jJ _ rfl) (bK (gu (Bp h.1.1) (by omega)) (bK (gu (jI (lh y h.1.2)) (by omega)) (bK (gu (jI (lh n h.2)) (by omega)) (iY _)))))) (by omega)
theorem lh:∀ns:j9,u9 ns=true→fds (2 * aO ns+2) (b_ ns)
 |.nil,_=>by rw[b_];exact iY _
 |.cons n r,h=>by rw[u9,Bool.and_eq_true]at h;rw[b_,aO];exact bK (gu (Jb n h.1) (by omega)) (ox (lh r h.2) (by omega))
end
theorem tf(n:Nat):SM (n+1) (-1)=some n:=by
 unfold SM;rw[if_neg (by omega),if_pos (by omega)]
 congr 1
 omega
theorem tW{α:Type}(l:List α)(v:α):m_ (l++ [v]) (-1)=some v:=by unfold m_;rw[List.length_append,List.length_singleton,tf];simp
theorem jp{α:Type}(l:List α)(v w:α):(l++ [v]).set l.length w=l++ [w]:=by simp
theorem GR{l:List PV}(hl:fds 59 l):Qv (.ref 0) (.lst []) [.lst l]=.ok (.bl (!l.isEmpty)) [.lst l]:=by
 have ok:Qp [.lst l] (.ref 0)=true:=by unfold Qp Qx;have:=hl.2.1;simp only[List.getElem?_cons_zero,PyData.canLay0,PyData.depth,hl.1,Bool.true_and,decide_eq_true_eq];omega
 unfold Qv;rw[if_pos ⟨ok,rfl⟩]
 cases l<;>rfl
theorem EO{n:Nd}(h:∀c s,n≠.text c s):∃t0,(∀hh,d7 (nd n) (.int 0) hh=.ok (.str t0) hh)∧∀hh,m9 (.str t0) (.str tT) hh=.ok (.bl false) hh:=by
 cases n with
 |text d s=>exact(h d s rfl).elim
 |place p w=>exact⟨tP,fun h=>by rw[nd,AZ,cU (v:=PV.str tP) (by decide) rfl];rfl,fun h=>by kernel_rfl⟩
 |loop m p ns b=>exact⟨tL,fun h=>by rw[nd,AZ,cU (v:=PV.str tL) (by decide) rfl];rfl,fun h=>by kernel_rfl⟩
 |choice p y m=>exact⟨tC,fun h=>by rw[nd,AZ,cU (v:=PV.str tC) (by decide) rfl];rfl,fun h=>by kernel_rfl⟩
theorem qR(k:Nat)(t:PV)(A:j9)(n:Nd)(hl:(b_ A).length<16777216)(h:bM (F k) [some t,some (.ref 0),some (nd n)] [.lst (b_ A)]=dq (cM cz ba (ae 1) aaw [some t,some (.ref 0),some (nd n)] [.lst (b_ A)]) fun _ h1=>.nx [some t,some (.ref 0),some (nd n)] h1):
  bM (F k) [some t,some (.ref 0),some (nd n)] [.lst (b_ A)]=.nx [some t,some (.ref 0),some (nd n)] [.lst (b_ (O6 A n))]:=by
 rw[h,dk];have ap:=Hx;have li:∀xs,cz [.lst xs] (.ref 0)=true:=fun _=>rfl;have dr:∀h,ay h (nd n)=nd n:=fun h=>by cases n<;>rfl
 have d0:∀xs:List PV,ay [.lst xs] (.ref 0)=.ref 0:=fun xs=>rfl;simp only[EV,dr,d0,ap,li,hl]
theorem AJ(k:Nat)(t:PV)(A:j9)(n:Nd)(hA:u9 A=true)(hn:wf n=true)(hd:aO A≤25)(hl:(b_ A).length<16777216)(ht:tl A+tl1 n≤1000):∃A',bM (F k) [some t,some (.ref 0),some (nd n)] [.lst (b_ A)]=.nx [some t,some (.ref 0),some (nd n)] [.lst (b_ A')]∧u9 A'=true∧aO A'≤max (aO A) (K_ n)∧(b_ A').length≤(b_ A).length+1∧1≤(b_ A').length∧wm A'≤max (wm A) (Qo n)∧tl A'=tl A+tl1 n∧M9 A'=M9 A+tz n∧(∀r,Om (apN A (.cons n r))=true→Om (apN A' r)=true)∧(∀r,hdT (apN A' r)=hdT (apN A (.cons n r))):=by
 have d0:∀xs:List PV,ay [.lst xs] (.ref 0)=.ref 0:=fun xs=>rfl;have li:∀xs,cz [.lst xs] (.ref 0)=true:=fun _=>rfl;have dr:∀h,ay h (nd n)=nd n:=fun h=>by cases n<;>rfl
 have fin:bM (F k) [some t,some (.ref 0),some (nd n)] [.lst (b_ A)]=.nx [some t,some (.ref 0),some (nd n)] [.lst (b_ (O6 A n))]→∃A',bM (F k) [some t,some (.ref 0),some (nd n)] [.lst (b_ A)]=.nx [some t,some (.ref 0),some (nd n)] [.lst (b_ A')]∧u9 A'=true∧aO A'≤max (aO A) (K_ n)∧(b_ A').length≤(b_ A).length+1∧1≤(b_ A').length∧wm A'≤max (wm A) (Qo n)∧tl A'=tl A+tl1 n∧M9 A'=M9 A+tz n∧(∀r,Om (apN A (.cons n r))=true→Om (apN A' r)=true)∧(∀r,hdT (apN A' r)=hdT (apN A (.cons n r))):=fun e=>⟨O6 A n,e,by rw[mN,hA,hn];rfl,by rw[lI];exact Nat.le_refl _,by rw[dk];simp,by rw[dk];simp,by rw[qB];exact Nat.le_refl _,nq A n,mO A n,fun r h=>by rw[jW];exact h,fun r=>by rw[jW]⟩
 have fA:fds 59 (b_ A):=ox (lh A hA) (by omega);have ne:=GR fA
 by_cases Z7:∃c s,n=.text c s
 ·obtain⟨c,s,rfl⟩:=Z7;have e1:∀h,m9 (.str tT) (.str tT) h=.ok (.bl true) h:=fun h=>by kernel_rfl
  have a0:m_ [PV.str tT,PV.str (c::s)] 0=some (.str tT):=rfl;have a1:m_ [PV.str tT,PV.str (c::s)] 1=some (.str (c::s)):=rfl;rcases pC A with rfl|⟨B,m,rfl⟩
  ·refine fin (qR k t .nil (.text c s) (by simp[b_]) ?_);rw[b_]at ne ⊢;have e0:(!([]:List PV).isEmpty)=false:=rfl;rw[e0]at ne;simp only[EV,bM,nd,a0,e1,d0,ne]
  ·rw[dk]at ne hl ⊢;have e0:(!(b_ B++ [nd m]).isEmpty)=true:=by simp
   rw[e0]at ne;have drm:∀h,ay h (nd m)=nd m:=fun h=>by cases m<;>rfl
   have Yv:d7 (.ref 0) (.int (-1)) [.lst (b_ B++ [nd m])]=.ok (nd m) [.lst (b_ B++ [nd m])]:=by have q:=tW (b_ B) (nd m);show(match m_ (b_ B++ [nd m]) (-1)with|some v=>Res.ok (ay [.lst (b_ B++ [nd m])] v) [.lst (b_ B++ [nd m])]|none=>.bad)=_;rw[q];show Res.ok (ay _ (nd m)) _=_;rw[drm]
   by_cases Z8:∃d u,m=.text d u
   ·obtain⟨d,u,rfl⟩:=Z8;rw[mN,Bool.and_eq_true]at hA;have hm:=hA.2;rw[wf]at hm hn;rw[nq]at ht;simp only[tl1]at ht;have b0:m_ [PV.str tT,PV.str (d::u)] 0=some (.str tT):=rfl;have b1:m_ [PV.str tT,PV.str (d::u)] 1=some (.str (d::u)):=rfl;have al:u.length+1+(s.length+1)≤16777216:=by omega
    have st:∀ ρ v,jq v (.ref 0) (.int (-1)) ρ [.lst (b_ B++ [nd (.text d u)])]=.nx ρ [.lst (b_ B++ [v])]:=fun ρ v=>by show(match SM (b_ B++ [nd (.text d u)]).length (-1)with|some j=>SR.nx ρ [.lst ((b_ B++ [nd (.text d u)]).set j v)]|none=>.bad)=_;rw[List.length_append,List.length_singleton,tf];show SR.nx ρ [.lst ((b_ B++ [nd (.text d u)]).set (b_ B).length v)]=_;rw[jp]
    rw[nd]at Yv st ne hl;refine⟨O6 B (.text d (u++c::s)),?_,?_,?_,?_,?_,?_,?_,?_,fun r h=>?_,fun r=>?_⟩
    ·rw[dk];simp only[EV,bM,nd,a0,a1,b0,b1,e1,d0,ne,Yv,st,al]
    ·rw[mN,hA.1,Bool.true_and,wf];exact mT (gn (a:=d::u) (eN hm) (eN hn)) (by simp only[List.length_cons,List.length_append];omega)
    ·rw[lI,lI];simp[K_]
    ·rw[dk];simp
    ·rw[dk];simp
    ·rw[qB,qB];simp[Qo]
    ·rw[nq,nq];simp only[tl1,List.length_append,List.length_cons];omega
    ·rw[mO,mO];simp only[tz,List.length_append,List.length_cons];omega
    ·rw[jW]at h ⊢;exact wa d u _ c s r B h
    ·rw[jW,jW];exact Bh B d _ _ _ _
   ·obtain⟨t0,Ue,et⟩:=EO (n:=m) fun d u e=>Z8 ⟨d,u,e⟩
    have q:=fin (by refine qR k t (O6 B m) (.text c s) (by rw[dk];exact hl) ?_;rw[dk];simp only[EV,bM,nd,a0,e1,d0,ne,Yv,Ue,et])
    rw[dk]at q;exact q
 ·obtain⟨t0,Ue,et⟩:=EO (n:=n) fun d u e=>Z7 ⟨d,u,e⟩;refine fin (qR k t A n hl ?_);simp only[EV,bM,dr,Ue,et]
theorem wK{a b c d e:Nat}(h1:b≤max a d)(h2:c≤max b e):c≤max a (max d e):=by rw[← Nat.max_assoc];exact Nat.le_trans h2 (Nat.max_le.mpr ⟨Nat.le_trans h1 (Nat.le_max_left _ _),Nat.le_max_right _ _⟩)
theorem tX:∀B:j9,apN B .nil=B
 |.nil=>by rw[apN]
 |.cons n r=>by rw[apN,tX r]
theorem sP(k:Nat)(t:PV):∀(ns A:j9)(x:Option PV),u9 A=true→u9 ns=true→aO A≤25→aO ns≤25→(b_ A).length+(b_ ns).length≤16777216→tl A+tl ns≤1000→
  ∃A' x',aZ (n8 2) (bM (F k)) (b_ ns) [some t,some (.ref 0),x] [.lst (b_ A)]=.nx [some t,some (.ref 0),x'] [.lst (b_ A')]∧u9 A'=true∧aO A'≤max (aO A) (aO ns)∧(b_ A').length≤(b_ A).length+(b_ ns).length∧(1≤(b_ A).length+(b_ ns).length→1≤(b_ A').length)∧wm A'≤max (wm A) (wm ns)∧tl A'=tl A+tl ns∧M9 A'=M9 A+M9 ns∧(Om (apN A ns)=true→Om A'=true)∧hdT A'=hdT (apN A ns)
 |.nil,A,x,hA,_,_,_,_,_=>⟨A,x,rfl,hA,by simp[aO],by simp[b_],by simp[b_],by simp[wm],by simp[tl],by simp[M9],fun h=>by rwa [tX]at h,by rw[tX]⟩
 |.cons n r,A,x,hA,hw,dA,dn,hl,ht=>by
  rw[u9,Bool.and_eq_true]at hw;rw[aO]at dn;rw[b_,List.length_cons]at hl;rw[hX]at ht;obtain⟨A1,e1,w1,d1,l1,o1,m1,t1,z1,c1,g1⟩:=AJ k t A n hA hw.1 dA (by omega) (by omega);obtain⟨A2,x',e2,w2,d2,l2,o2,m2,t2,z2,c2,g2⟩:=sP k t r A1 (some (nd n)) w1 hw.2 (by omega) (by omega) (by omega) (by omega);refine⟨A2,x',?_,w2,by rw[aO];exact wK d1 d2,by rw[b_,List.length_cons];omega,fun _=>o2 (by omega),by rw[wm];exact wK m1 m2,by rw[hX];omega,by rw[M9];omega,fun h=>c2 (c1 r h),g2.trans (g1 r)⟩;rw[← e2]
  show(match bM (F k) [some t,some (.ref 0),some (nd n)] [.lst (b_ A)]with
    |.nx ρ2 h2=>aZ (n8 2) (bM (F k)) (b_ r) ρ2 h2
    |.ct ρ2 h2=>aZ (n8 2) (bM (F k)) (b_ r) ρ2 h2
    |.bk ρ2 h2=>.nx ρ2 h2
    |.rt v h2=>.rt v h2
    |.exc v h2=>.exc v h2
    |.bad=>.bad)=_
  rw[e1]
theorem nR(k:Nat)(ns:j9){u:Bool}{d a t z:Nat}(h:Fw u ns d a t z)(hd:d≤25)(ha:a≤1000)(ht:t≤1000):∃A,F (k+1) .K4 [.lst (b_ ns)]=.ok (.tup (b_ A))∧Fw u A d a t z∧(1≤(b_ ns).length→1≤(b_ A).length)∧hdT A=hdT ns∧(Qs ns=true→Qs A=true):=by
 have h2:=h.n;have h3:=h.t;have h4:=h.d;obtain⟨A,x',e,w,dd,l,o,m,tt,zz,cc,gg⟩:=sP k (.lst (b_ ns)) ns .nil none (by simp[u9]) h.w (by simp[aO]) (by omega) (by simp[b_];omega) (by simp[tl];omega)
 have iN:Qs ns=true→Qs A=true:=fun q=>by
  have l0:(b_ ns).length=0:=by cases ns<;>first|rfl|cases q
  have l1:(b_ A).length=0:=by rw[b_,List.length_nil]at l;omega
  cases A with
  |nil=>rfl
  |cons _ _=>rw[b_]at l1;cases l1
 have h5:=h.l;have h6:=h.z;refine⟨A,?_,⟨w,by simp[aO]at dd;omega,by simp[b_]at l;omega,by simp[wm]at m;omega,by simp[tl]at tt;omega,by simp[M9]at zz;omega,fun q=>cc (by rw[eX];exact h.c q)⟩,fun q=>o (by simp[b_];omega),gg,iN⟩;show aJ (lR (F k)) 1 3 [.lst (b_ ns)]=_;rw[b_]at e;have tp:nQ [.ref 0] [.lst (b_ A)]=.ok (.tup (b_ A)) [.lst (b_ A)]:=rfl;have d0:∀xs:List PV,ay [.lst xs] (.ref 0)=.ref 0:=fun xs=>rfl;have fr:cW (.tup (b_ A)) [.lst (b_ A)]=.ok (.tup (b_ A)):=bR (by rw[PV.pure];exact aQ A w);simp only[EV,aJ,lR,e,d0,tp,fr]
theorem wG{l m:List Nat}(h:J_ l=true)(hm:∀c∈m,c∈l):J_ m=true:=by unfold J_ at*;rw[List.all_eq_true]at*;exact fun c hc=>h c (hm c hc)
theorem mU{l:List Nat}(h:J_ l=true)(a b:Option Int):J_ (cut l a b)=true:=wG h fun c hc=>by unfold cut at hc;exact List.mem_of_mem_drop (List.mem_of_mem_take hc)
theorem rj{α:Type}(l:List α)(a b:Option Int):(cut l a b).length≤l.length:=by unfold cut;rw[List.length_take,List.length_drop];omega
def Wb(i:Int):Nat:=bI.getD (i % 26).toNat 0
theorem BE(i:Int):m_ bI (i % 26)=some (Wb i):=lS 0 (Int.emod_nonneg _ (by decide)) (by
 have:(bI.length:Int)=26:=by decide
 rw[this];exact Int.emod_lt_of_pos _ (by decide))
theorem BD(i:Int):J_ [Wb i]=true:=by
 have h0:=Int.emod_nonneg i (by decide:(26:Int)≠0);have h1:=Int.emod_lt_of_pos i (by decide:(0:Int)<26);have e:bI.length=26:=by decide
 have m:Wb i∈bI:=lF (by rw[e];omega);exact wG (l:=bI) (by decide) (fun c hc=>by rw[List.mem_singleton.mp hc];exact m)
theorem JK:bI.length≤16777216:=by decide
def uk(j:Nat):List Nat:=match AB [.int (0+(j:Nat))] []with
 |.ok (.str l) _=>l
 |_=> []
theorem Fj(h:List L3.PO):((List.range 12).map fun j=>AB [.int (0+(j:Nat))] h)=(List.range 12).map fun j=>Res.ok (.str (uk j)) h:=by kernel_rfl
theorem Il:((List.range 12).all fun j=>J_ (uk j)&&decide ((uk j).length≤2))=true:=by kernel_rfl
theorem yt(k:Nat)(n:Int)(W:List Nat)(hW:J_ W=true)(lW:W.length≤8)(j:Nat)(hj:j<12)(x6:Option PV)(acc:List PV)(ha:acc.length<16777216):∃l Ye,J_ l=true∧
  dz (F k) [some (.int n),some (.str bI),some (.str W),some (.int (n / 24 % 8)),some (.ref 0),some (.int (0+(j:Nat))),x6] [.lst acc]=.nx [some (.int n),some (.str bI),some (.str W),some (.int (n / 24 % 8)),some (.ref 0),some (.int (0+(j:Nat))),Ye] [.lst (acc++ [.str l])]:=by
 have st:=fun h=>List.map_inj_left.mp (Fj h) j (List.mem_range.mpr hj);have so:=List.all_eq_true.mp Il j (List.mem_range.mpr hj);rw[Bool.and_eq_true]at so;have sl:(uk j).length≤2:=of_decide_eq_true so.2;have p1:decide ((0:Int)<192∧(192:Int)<1073741824)=true:=by decide
 have p2:decide ((0:Int)<26)=true:=by decide
 have p3:decide ((0:Int)<3)=true:=by decide
 have p4:decide ((0:Int)<3∧(3:Int)<1073741824)=true:=by decide
 have p5:decide ((0:Int)<8)=true:=by decide
 have m7:∀x:Int,je 7 x=true:=fun x=>nY (by decide);have az:=BE (n / 192+7 * (0+(j:Nat))+1);have ao:=BD (n / 192+7 * (0+(j:Nat))+1);generalize Wb (n / 192+7 * (0+(j:Nat))+1)=s at az ao;have zl:=JK;have d0:∀xs:List PV,ay [.lst xs] (.ref 0)=.ref 0:=fun xs=>rfl;have li:∀xs,cz [.lst xs] (.ref 0)=true:=fun _=>rfl;have ap:=Hx;have wl:W.length≤16777216:=by omega
 have c1:=rj W none (some 1);have c2:=rj W none (some (n / 24 % 8));have c3:=rj W (some (n / 24 % 8+1)) none;have o1:J_ (cut W none (some 1)++uk j)=true:=gn (mU hW _ _) so.1;have o2:J_ (cut W none (some (n / 24 % 8))++[s]++cut W (some (n / 24 % 8+1)) none)=true:=gn (gn (mU hW _ _) ao) (mU hW _ _);have o3:J_ (cut ([s]++W) none (some (1+n / 3 % 8)))=true:=mU (gn ao hW) _ _;have l1:(cut W none (some 1)).length+(uk j).length≤16777216:=by omega
 have l2:(cut W none (some (n / 24 % 8))).length+1≤16777216:=by omega
 have l3:(cut W none (some (n / 24 % 8))).length+1+(cut W (some (n / 24 % 8+1)) none).length≤16777216:=by omega
 have l4:1+W.length≤16777216:=by omega
 have l5:W.length+1≤16777216:=by omega
 have l6:W.length≤16777215:=by omega
 obtain⟨l,ol,al⟩:∃l,J_ l=true∧m_ [PV.str (cut W none (some 1)++uk j),.str (cut W none (some (n / 24 % 8))++[s]++cut W (some (n / 24 % 8+1)) none),.str (cut ([s]++W) none (some (1+n / 3 % 8)))] (n % 3)=some (.str l):=by
  rcases kw n with q|q|q<;>rw[q]
  ·exact⟨_,o1,rfl⟩
  ·exact⟨_,o2,rfl⟩
  ·exact⟨_,o3,rfl⟩
 rw[List.singleton_append]at al;refine⟨l,some (.str [s]),ol,?_⟩;simp only[EV,dz,d0,li,p1,p2,p3,p4,p5,m7,az,zl,wl,st,l1,l2,l3,l4,l5,l6,List.length_append,al,ap,ha]
theorem pT(k:Nat)(n:Int)(W:List Nat)(hW:J_ W=true)(lW:W.length≤8):∀(js:List Nat)(x5 x6:Option PV)(acc:List PV),(∀j∈js,j<12)→acc.length+js.length<16777216→∃(ls:List (List Nat))(y5 y6:Option PV),ls.length=js.length∧(∀l∈ls,J_ l=true)∧
  aZ (n8 5) (dz (F k)) (js.map fun j=>PV.int (0+(j:Nat))) [some (.int n),some (.str bI),some (.str W),some (.int (n / 24 % 8)),some (.ref 0),x5,x6] [.lst acc]=.nx [some (.int n),some (.str bI),some (.str W),some (.int (n / 24 % 8)),some (.ref 0),y5,y6] [.lst (acc++ls.map PV.str)]
 |[],x5,x6,acc,_,_=>⟨[],x5,x6,rfl,by simp,by simp[aZ]⟩
 |j::r,x5,x6,acc,hj,hl=>by
  rw[List.length_cons]at hl;obtain⟨l,Ye,ol,e⟩:=yt k n W hW lW j (hj j (List.mem_cons_self ..)) x6 acc (by omega);obtain⟨ls,y5,y6,e1,e2,e3⟩:=pT k n W hW lW r (some (.int (0+(j:Nat)))) Ye (acc++ [.str l]) (fun i hi=>hj i (List.mem_cons_of_mem _ hi)) (by rw[List.length_append,List.length_singleton];omega);refine⟨l::ls,y5,y6,by rw[List.length_cons,List.length_cons,e1],fun z hz=>?_,?_⟩
  ·rcases List.mem_cons.mp hz with q|q
   ·rw[q];exact ol
   ·exact e2 z q
  ·rw[List.append_assoc]at e3;have g:(l::ls).map PV.str= [PV.str l]++ls.map PV.str:=rfl;rw[g,← e3]
   show(match dz (F k) [some (.int n),some (.str bI),some (.str W),some (.int (n / 24 % 8)),some (.ref 0),some (.int (0+(j:Nat))),x6] [.lst acc]with
    |.nx ρ2 h2=>aZ (n8 5) (dz (F k)) (r.map fun j=>PV.int (0+(j:Nat))) ρ2 h2
    |.ct ρ2 h2=>aZ (n8 5) (dz (F k)) (r.map fun j=>PV.int (0+(j:Nat))) ρ2 h2
    |.bk ρ2 h2=>.nx ρ2 h2
    |.rt v h2=>.rt v h2
    |.exc v h2=>.exc v h2
    |.bad=>.bad)=_
   rw[e]
theorem ce:∀ls:List (List Nat),aI (ls.map PV.str)=true
 |[]=>rfl
 |l::r=>by rw[List.map_cons,aI,ce r];rfl
theorem AO(k:Nat)(n:Int):∃ls:List (List Nat),ls.length=12∧(∀l∈ls,J_ l=true)∧F (k+1) .Mj [.int n]=.ok (.lst (ls.map PV.str)):=by
 let f:Nat→Nat:=fun j=>Wb (n / 192+5 * (0+(j:Int)))
 have hW:J_ ((List.range 8).map f)=true:=by unfold J_;rw[List.all_eq_true];intro c hc;obtain⟨j,_,rfl⟩:=List.mem_map.mp hc;have:=BD (n / 192+5 * (0+(j:Int)));unfold J_ at this;exact List.all_eq_true.mp this _ (List.mem_singleton.mpr rfl)
 have lW:((List.range 8).map f).length≤8:=by simp
 obtain⟨ls,y5,y6,e1,e2,e3⟩:=pT k n ((List.range 8).map f) hW lW (List.range 12) none none [] (fun j hj=>List.mem_range.mp hj) (by simp);rw[List.nil_append]at e3;refine⟨ls,by rw[e1,List.length_range],e2,?_⟩;show aJ (iL (F k)) 1 7 [.int n]=_;have p1:decide ((0:Int)<192∧(192:Int)<1073741824)=true:=by decide
 have p2:decide ((0:Int)<26)=true:=by decide
 have p3:decide ((0:Int)<24∧(24:Int)<1073741824)=true:=by decide
 have p5:decide ((0:Int)<8)=true:=by decide
 have m5:∀x:Int,je 5 x=true:=fun x=>nY (by decide);have zl:=JK
 have cm:∀h,be bX (jK (F k)) [some (.str bI),some (.int n)] ((List.range (Int.toNat 8)).map fun i=>PV.int (0+(i:Nat))) h=.ok (((List.range 8).map fun i=> [f i]).map PV.str) h:=fun h=>by
  rw[gy (f:=fun p=>match p with|.int i=>.str [Wb (n / 192+5 * i)]|_=>.non) _ (fun p hp=>by obtain⟨i,hi,rfl⟩:=List.mem_map.mp hp;have Zj:=BE (n / 192+5 * (0+(i:Int)));simp only[EV,jK,p1,p2,m5,Zj,zl]),List.map_map,List.map_map]
  rfl
 have b8:Rv 4611686018427387904 8=true:=rfl;have b12:Rv 4611686018427387904 12=true:=rfl
 have jn:∀h,ie (.str []) [.lst (((List.range 8).map fun i=> [f i]).map PV.str)] h=.ok (.str ((List.range 8).map fun i=> [f i]).flatten) h:=fun h=>qP (by rw[kL _ (fun x hx=>by obtain⟨c,_,rfl⟩:=List.mem_map.mp hx;rfl),List.length_map,List.length_range];decide)
 have ln:((List.range (Int.toNat 8)).map fun i=>PV.int (0+(i:Nat))).length<16777216:=by decide
 have cp:∀ ρ:Ev,dL [1,0] (some (PV.int n)::some (.str bI)::ρ)=[some (.str bI),some (.int n)]:=fun _=>rfl;have r12:(List.range (Int.toNat 12))=List.range 12:=rfl;have fr:cW (.ref 0) [.lst (ls.map PV.str)]=.ok (.lst (ls.map PV.str)):=DV _ (ce ls);have d0:∀xs:List PV,ay [.lst xs] (.ref 0)=.ref 0:=fun xs=>rfl;have om:=sO f 8;simp only[EV,aJ,iL,b8,b12,ln,cp,cm,jn,om,p3,p5,r12,e3,d0,fr]
abbrev Si:=List Nat×List (List Nat)×Nat
noncomputable def it(x:Si):PV:=.tup [.tup ((x.1::x.2.1).map PV.str),.str [x.2.2]]
noncomputable def knd:List Nat:=[116,119,110,98,108,109]
def ki(x:Si):Prop:=J_ x.1=true∧(∀l∈x.2.1,J_ l=true)∧x.2.2∈knd
noncomputable def hU(ps:List (List Nat))(ls:List (List Nat))(j:Nat):Si:=match ps with
 |[]=>(ls.getD j [],[],[116,119,110,98].getD j 0)
 |p::r=>(p,r++ [ls.getD j []],[116,119,110,98].getD j 0)
theorem Cm(ps ls:List (List Nat))(j:Nat):it (hU ps ls j)=.tup [.tup ((ps++ [ls.getD j []]).map PV.str),.str [[116,119,110,98].getD j 0]]:=by cases ps<;>rfl
theorem gt{ls:List (List Nat)}(h:∀l∈ls,J_ l=true)(j:Nat):J_ (ls.getD j [])=true:=by
 rcases Nat.lt_or_ge j ls.length with q|q
 ·exact h _ (lF q)
 ·rw[List.getD_eq_getElem?_getD,List.getElem?_eq_none q];rfl
theorem qJ{ps ls:List (List Nat)}(hp:∀l∈ps,J_ l=true)(hl:∀l∈ls,J_ l=true)(j:Nat)(hj:j<4):ki (hU ps ls j):=by
 have k4: [116,119,110,98].getD j 0∈knd:=by rcases(by omega:j=0∨j=1∨j=2∨j=3)with rfl|rfl|rfl|rfl<;>decide
 cases ps with
 |nil=>exact⟨gt hl j,by simp[hU],k4⟩
 |cons p r=>
  refine⟨hp p (List.mem_cons_self ..),fun l hm=>?_,k4⟩;rcases List.mem_append.mp hm with q|q
  ·exact hp l (List.mem_cons_of_mem _ q)
  ·rw[List.mem_singleton.mp q];exact gt hl j
theorem BK(ps:List (List Nat))(h4:ps.length≤4)(x:List Nat)(h:List L3.PO):sM (.tup (ps.map PV.str)) (.tup [.str x]) h=.ok (.tup ((ps++ [x]).map PV.str)) h:=by
 cases ps with
 |nil=>rfl
 |cons p r=>show aT (.tup (PV.str p::r.map PV.str)) (.tup [.str x]) h=_;rw[List.length_cons]at h4;rw[vP,if_pos ⟨rfl,by rw[szl,List.length_cons,List.length_map,List.length_cons,List.length_nil];omega⟩];rw[List.map_append];rfl
theorem ut(k:Nat)(ps ls:List (List Nat))(Q0:ls.length=12)(h4:ps.length≤4):F (k+1) .Nx [.tup (ps.map PV.str),.lst (ls.map PV.str)]=.ok (.lst ((List.range 4).map fun j=>it (hU ps ls j))):=by
 show aJ (lQ (F k)) 2 2 [.tup (ps.map PV.str),.lst (ls.map PV.str)]=_;have ad:=BK ps h4
 have cm:∀h,be bX (mo (F k)) [some (.tup (ps.map PV.str)),some (.lst (ls.map PV.str))] ((List.range (Int.toNat 4)).map fun i=>PV.int (0+(i:Nat))) h=.ok ((List.range 4).map fun j=>it (hU ps ls j)) h:=fun h=>by
  rw[gy (f:=fun p=>match p with|.int i=>it (hU ps ls i.toNat)|_=>.non) _ (fun p hp=>by
   obtain⟨i,hi,rfl⟩:=List.mem_map.mp hp;have hi4:i<4:=List.mem_range.mp hi
   have a1:m_ (ls.map PV.str) (0+(i:Int))=some (.str (ls.getD i [])):=cU (by omega) (by rw[List.getElem?_map,List.getD_eq_getElem?_getD,show(0+(i:Int)).toNat=i by omega,List.getElem?_eq_getElem (by omega)];rfl)
   have a2:m_ [116,119,110,98] (0+(i:Int))=some ([116,119,110,98].getD i 0):=cU (by omega) (by rw[List.getD_eq_getElem?_getD,show(0+(i:Int)).toNat=i by omega,List.getElem?_eq_getElem (by simpa using hi4)];rfl)
   have e0:(0+(i:Int)).toNat=i:=by omega
   have l4:(4:Nat)≤16777216:=by decide
   simp only[EV,mo,ad,a1,a2,e0,Cm]),List.map_map]
  rfl
 have b4:Rv 4611686018427387904 4=true:=rfl;have ln:((List.range (Int.toNat 4)).map fun i=>PV.int (0+(i:Nat))).length<16777216:=by decide
 have cp:∀a b:Option PV,dL [0,1] [a,b]=[a,b]:=fun a b=>by cases a<;>cases b<;>rfl
 have pu:∀xs:List Si,aI (xs.map it)=true:=fun xs=>by
  induction xs with
  |nil=>rfl
  |cons x r ih=>rw[List.map_cons,aI,ih,Bool.and_true];show aI [PV.tup ((x.1::x.2.1).map PV.str),.str [x.2.2]]=true;simp only[aI,PV.pure,ce,Bool.and_true]
 have fr:cW (.lst ((List.range 4).map fun j=>it (hU ps ls j))) []=.ok (.lst ((List.range 4).map fun j=>it (hU ps ls j))):=bR (by
  rw[PV.pure];have:=pu ((List.range 4).map fun j=>hU ps ls j)
  rwa [List.map_map]at this)
 simp only[EV,aJ,lQ,b4,ln,cp,cm,fr]
theorem gK:∀xs:List Si,aI (xs.map it)=true
 |[]=>rfl
 |x::r=>by rw[List.map_cons,aI,gK r,Bool.and_true];show aI [PV.tup ((x.1::x.2.1).map PV.str),.str [x.2.2]]=true;simp only[aI,PV.pure,ce,Bool.and_true]
theorem nU{ls:List (List Nat)}(j:Nat)(h:j<ls.length):m_ (ls.map PV.str) (j:Int)=some (.str (ls.getD j [])):=cU (by omega) (by rw[List.getElem?_map,List.getD_eq_getElem?_getD,Int.toNat_natCast,List.getElem?_eq_getElem h];rfl)
theorem zu(k:Nat)(ls:List (List Nat))(Q0:ls.length=12)(ho:∀l∈ls,J_ l=true):∃sc:List Si,sc.length=10∧(∀x∈sc,ki x)∧F (k+2) .Mi [.lst (ls.map PV.str)]=.ok (.lst (sc.map it)):=by
 have r1:=ut k [] ls Q0 (by simp);have r2:=ut k [ls.getD 4 []] ls Q0 (by simp);have fl:=fun h=>fQ h (ce ls);have f0:∀h,cC h (.tup [])=some (.tup [],h):=fun h=>jX h rfl;have f1:∀x h,cC h (.tup [.str x])=some (.tup [.str x],h):=fun x h=>jX h rfl;have n4:m_ (ls.map PV.str) 4=some (.str (ls.getD 4 [])):=nU 4 (by omega);have n5:m_ (ls.map PV.str) 5=some (.str (ls.getD 5 [])):=nU 5 (by omega);have n6:m_ (ls.map PV.str) 6=some (.str (ls.getD 6 [])):=nU 6 (by omega)
 let sc:List Si:=((List.range 4).map fun j=>hU [] ls j)++((List.range 4).map fun j=>hU [ls.getD 4 []] ls j)++[(ls.getD 5 [],[],108),(ls.getD 6 [],[],109)];have e1:((List.range 4).map fun j=>it (hU [] ls j)).length=4:=by simp
 have e2:((List.range 4).map fun j=>it (hU [ls.getD 4 []] ls j)).length=4:=by simp
 refine⟨sc,by simp[sc],fun x hx=>?_,?_⟩
 ·rcases List.mem_append.mp hx with q|q
  ·rcases List.mem_append.mp q with q|q
   ·obtain⟨j,hj,rfl⟩:=List.mem_map.mp q;exact qJ (by simp) ho j (List.mem_range.mp hj)
   ·obtain⟨j,hj,rfl⟩:=List.mem_map.mp q;exact qJ (fun l hl=>by rw[List.mem_singleton.mp hl];exact gt ho 4) ho j (List.mem_range.mp hj)
  ·rcases List.mem_cons.mp q with q|q
   ·rw[q];exact⟨gt ho 5,by simp,(by decide:108∈knd)⟩
   ·rw[List.mem_singleton.mp q];exact⟨gt ho 6,by simp,(by decide:109∈knd)⟩
 ·have em:sc.map it=((List.range 4).map fun j=>it (hU [] ls j))++((List.range 4).map fun j=>it (hU [ls.getD 4 []] ls j))++[.tup [.tup [.str (ls.getD 5 [])],.str [108]],.tup [.tup [.str (ls.getD 6 [])],.str [109]]]:=by simp only[sc,List.map_append,List.map_map];rfl
  have fr:cW (.lst (sc.map it)) []=.ok (.lst (sc.map it)):=bR (by rw[PV.pure];exact gK sc);rw[em]at fr ⊢;show aJ (iK (F (k+1))) 1 1 [.lst (ls.map PV.str)]=_;rw[List.map_nil]at r1;rw[List.map_cons,List.map_nil]at r2;generalize((List.range 4).map fun j=>it (hU [] ls j))=R1 at*;generalize((List.range 4).map fun j=>it (hU [ls.getD 4 []] ls j))=R2 at*;have l1:R1.length+R2.length≤16777216:=by omega
  have l2:R1.length+R2.length+2≤16777216:=by omega
  simp only[EV,aJ,iK,ai,fl,f0,f1,n4,n5,n6,r1,r2,l1,l2,List.length_append,fr]
abbrev hp(n:Int)(js:List PO)(xs:List PV):List PO:=o8 n::(js++ [.lst xs])
theorem kA(n:Int)(js:List PO)(xs:List PV):(hp n js xs)[js.length+1]? =some (.lst xs):=by show(js++ [PO.lst xs])[js.length]? =_;simp
theorem Bd(n:Int)(js:List PO)(xs ys:List PV):(hp n js xs).set (js.length+1) (.lst ys)=hp n js ys:=by show o8 n::(js++ [PO.lst xs]).set js.length (.lst ys)=_;rw[jp]
theorem mH(n:Int)(js:List PO)(xs:List PV):ay (hp n js xs) (.ref (js.length+1))=.ref (js.length+1):=by show(match(hp n js xs)[js.length+1]? with|some (.o9 q)=>q|_=>.ref (js.length+1))=_;rw[kA]
theorem wQ(n:Int)(js:List PO)(xs:List PV):sX (hp n js xs) (.ref (js.length+1))=some (js.length+1,xs):=by show(match(hp n js xs)[js.length+1]? with|some (.lst xs)=>some (js.length+1,xs)|_=>none)=_;rw[kA]
theorem Be(n:Int)(js:List PO)(xs:List PV)(p:PV)(h:xs.length<16777216):ba (.ref (js.length+1)) [p] (hp n js xs)=.ok .non (hp n js (xs++ [p])):=by unfold ba;simp only[wQ];rw[if_pos (by rw[szl];exact h),Bd]
theorem vi(n:Int)(js:List PO)(xs:List PV):RJ (hp n js xs) (.ref (js.length+1))=some xs:=by show(match(hp n js xs)[js.length+1]? with|some (.lst xs)=>some xs|_=>none)=_;rw[kA]
theorem Hk(n:Int)(js:List PO)(xs:List PV):cz (hp n js xs) (.ref (js.length+1))=true:=by show(RJ (hp n js xs) (.ref (js.length+1))).isSome=true;rw[vi];rfl
theorem Hi(n:Int)(js:List PO)(xs:List PV):(hp n js xs).length=js.length+2:=by simp
theorem vj(n:Int)(js:List PO)(xs ys:List PV)(h:xs.length+ys.length≤16777216):gm (.ref (js.length+1)) (.lst ys) (hp n js xs)=.ok (.ref ((js++ [PO.lst xs]).length+1)) (hp n (js++ [.lst xs]) (xs++ys)):=by have e:RJ (hp n js xs) (.lst ys)=some ys:=rfl;unfold gm;simp only[vi,e];rw[if_pos (by rw[szl];exact h),Hi,List.length_append,List.length_singleton];rfl
theorem Hl(n:Int)(js:List PO)(xs:List PV)(h:aI xs=true):qZ 1 (.ref (js.length+1)) (hp n js xs)=.ok (.lst xs) [o8 n]:=by
 have f:cC (hp n js xs) (.ref (js.length+1))=some (.lst xs,(hp n js xs).set (js.length+1) (.o9 (.lst xs))):=by unfold cC;simp only[kA,h,if_true]
 unfold qZ;rw[f];have e:(hp n js xs).set (js.length+1) (.o9 (.lst xs))=o8 n::(js++ [PO.lst xs]).set js.length (.o9 (.lst xs)):=rfl;rw[e,jp];show oY 1 (.lst xs) (o8 n::(js++ [PO.o9 (.lst xs)]))=_;unfold oY
 have c:(bS ((o8 n::(js++ [PO.o9 (.lst xs)])).take 1)&&Nat.ble 1 (o8 n::(js++ [PO.o9 (.lst xs)])).length)=true:=by show(bS [o8 n]&&Nat.ble 1 ((js++ [PO.o9 (.lst xs)]).length+1))=true;rw[show bS [o8 n]=true by simp[bS,PO.pure,aI,PV.pure],Bool.true_and,Nat.ble_eq];omega
 rw[if_pos c];rfl
theorem mX{fn:List PV→List PO→Res PV}{p v:PV}{rest:List PV}{n n':Int}{js:List PO}{xs:List PV}(Vr:p.pure=true)(hr:aI rest=true)(e:fn (p::.ref 0::rest) [o8 n]=.ok v [o8 n'])(hv:v.pure=true):gR fn (p::.ref 0::rest) (hp n js xs)=.ok v (hp n' js xs):=
 qq Vr hr rfl (kM n) e hv (kM n')
theorem tm(n:Int)(js:List PO)(xs:List PV):ay (hp n js xs) (.ref 0)=.ref 0:=rfl
theorem Hj(n:Int)(js:List PO)(xs:List PV):d7 (.ref 0) (.int 0) (hp n js xs)=.ok (.int n) (hp n js xs):=rfl
noncomputable def jh(kd:List Nat)(sc:List Si):List Si:=sc.filter fun x=>kd.contains x.2.2
theorem qY(k:Nat)(kd:List Nat)(hk:J_ kd=true)(h:List L3.PO):∀sc:List Si,be (bW (F k)) (bZ (F k)) [some (.str kd)] (sc.map it) h=.ok ((jh kd sc).map it) h
 |[]=>rfl
 |x::r=>by
  have q:=qY k kd hk h r;simp only[bW,bZ]at q;have a1:∀(a b:PV),m_ [a,b] 1=some b:=fun _ _=>rfl;have ne:=qO kd [] h (mh hk) (by simp);have i1:=eI x.2.2 kd;rw[List.map_cons,jh,List.filter_cons]
  cases z:kd.contains x.2.2 with
  |false=>rw[z]at i1;simp only[Bool.false_eq_true,if_false];simp only[EV,be,bW,bZ,it,a1,i1];exact q
  |true=>
   rw[z]at i1
   have nk:decide (kd= [])=false:=by
    cases kd with
    |nil=>simp at z
    |cons a b=>simp
   rw[nk]at ne;simp only[if_true]
   have e:be (bW (F k)) (bZ (F k)) [some (.str kd)] (it x::r.map it) h=(be (bW (F k)) (bZ (F k)) [some (.str kd)] (r.map it) h).bind fun vs h3=>.ok (it x::vs) h3:=by rw[be];simp only[EV,bW,bZ,it,a1,i1,ne]
   rw[e,qY k kd hk h r];rfl
theorem CZ(fs:List Si)(v:Int):(∃x∈fs,m_ (fs.map it++ [.tup [.non,.str []]]) (v / 7 % (if(fs.length:Int)>1 then(fs.length:Int)else 1))=some (it x))∨(fs= []∧m_ (fs.map it++ [.tup [.non,.str []]]) (v / 7 % (if(fs.length:Int)>1 then(fs.length:Int)else 1))=some (.tup [.non,.str []])):=by
 cases fs with
 |nil=>exact .inr ⟨rfl,by
   have e:v / 7 % (if(([]:List Si).length:Int)>1 then(([]:List Si).length:Int)else 1)=0:=by simp[Int.emod_one]
   rw[e];rfl⟩
 |cons a r=>
  left
  generalize hm:(if((a::r).length:Int)>1 then((a::r).length:Int)else 1)=m
  have m1:0<m∧m≤((a::r).length:Int):=by
   rw[List.length_cons]at hm ⊢
   split at hm<;>omega
  have h0:=Int.emod_nonneg (v / 7) (show m≠0 by omega);have h1:=Int.emod_lt_of_pos (v / 7) m1.1;generalize v / 7 % m=j at h0 h1;have hj:j.toNat<(a::r).length:=by omega
  refine⟨(a::r)[j.toNat],List.getElem_mem hj,cU h0 ?_⟩;rw[List.getElem?_append_left (by rw[List.length_map];exact hj),List.getElem?_map,List.getElem?_eq_getElem hj];rfl
theorem fG:∀A B:j9,b_ (apN A B)=b_ A++b_ B
 |.nil,B=>by simp[apN,b_]
 |.cons n r,B=>by rw[apN,b_,fG r B,b_];rfl
theorem yV:∀A B:j9,u9 (apN A B)=(u9 A&&u9 B)
 |.nil,B=>by simp[apN,u9]
 |.cons n r,B=>by rw[apN,u9,yV r B,u9,Bool.and_assoc]
theorem xi:∀A B:j9,aO (apN A B)=max (aO A) (aO B)
 |.nil,B=>by simp[apN,aO]
 |.cons n r,B=>by rw[apN,aO,xi r B,aO,Nat.max_assoc]
theorem Es:∀A B:j9,wm (apN A B)=max (wm A) (wm B)
 |.nil,B=>by simp[apN,wm]
 |.cons n r,B=>by rw[apN,wm,Es r B,wm,Nat.max_assoc]
theorem Et:∀A B:j9,tl (apN A B)=tl A+tl B
 |.nil,B=>by simp[apN,tl]
 |.cons n r,B=>by rw[apN,hX,Et r B,hX];omega
theorem yX:∀A B:j9,M9 (apN A B)=M9 A+M9 B
 |.nil,B=>by simp[apN,M9]
 |.cons n r,B=>by rw[apN,M9,yX r B,M9];omega
theorem Fw.ap{u:Bool}{A B:j9}{d a t z d' a' t' z':Nat}(h:Fw u A d a t z)(g:Fw u B d' a' t' z'):Fw u (apN A B) (max d d') (a+a') (t+t') (z+z'):=by have h1:=h.d;have h2:=h.n;have h3:=h.l;have h4:=h.t;have h5:=h.z;have g1:=g.d;have g2:=g.n;have g3:=g.l;have g4:=g.t;have g5:=g.z;exact⟨by rw[yV,h.w,g.w];rfl,by rw[xi];omega,by rw[fG,List.length_append];omega,by rw[Es];omega,by rw[Et];omega,by rw[yX];omega,fun q=>ze A B (h.c q) (g.c q)⟩
theorem Fw.mono{u:Bool}{A:j9}{d a t z d' a' t' z':Nat}(h:Fw u A d a t z)(h1:d≤d')(h2:a≤a')(h3:t≤t')(h4:z≤z'):Fw u A d' a' t' z':=
 ⟨h.w,Nat.le_trans h.d h1,Nat.le_trans h.n h2,Nat.le_trans h.l (Nat.mul_le_mul_left 12 h1),Nat.le_trans h.t h3,Nat.le_trans h.z h4,h.c⟩
theorem Fw.nil{u:Bool}(d a t z:Nat):Fw u .nil d a t z:=⟨rfl,by simp[aO],by simp[b_],by simp[wm],by simp[tl],by simp[M9],fun _=>by rw[Om]⟩
theorem Fw.text{u:Bool}{c:Nat}{s:List Nat}(h:J_ (c::s)=true){t:Nat}(hl:(c::s).length≤t)(ht:t≤1000):Fw u (.cons (.text c s) .nil) 0 1 t t:=by rw[List.length_cons]at hl;exact⟨by rw[u9,wf,mT h (by rw[List.length_cons];omega)];rfl,by simp[aO,K_],by simp[b_],by simp[wm,Qo],by rw[hX];simp only[tl1,tl];omega,by rw[M9];simp only[tz,M9];omega,fun _=>by simp[Om,Ry]⟩
theorem Ip{x:Si}(h:ki x):dP (.tup ((x.1::x.2.1).map PV.str))=true:=by
 have key:∀ls:List (List Nat),(∀l∈ls,J_ l=true)→kb (ls.map PV.str)=true:=by
  intro ls
  induction ls with
  |nil=>intro _;rfl
  |cons l r ih=>intro hl;rw[List.map_cons,kb,hl l (List.mem_cons_self ..),ih fun z hz=>hl z (List.mem_cons_of_mem _ hz)];rfl
 exact key _ fun l hl=>by
  rcases List.mem_cons.mp hl with q|q
  ·rw[q];exact h.1
  ·exact h.2.1 l q
theorem Jj(v deep n:Int)(js:List PO)(xs:List PV)(x0 x2 x4 x5 x7 x8 x9 H_:Option PV):∃kd:List Nat,kd∈ [[],Ra,[108,109],[98]]∧(deep<1→kd= []∨kd=Ra)∧
  (c2 d7 (cN bx (aa aai (aa aa6 (aa aa6 (aa (cK (.str [108,109])) (aa (cK (.str [108,109])) (aa aa9 (aa aa9 ag)))))))) (c2 aU (ae 6) (c2 d7 (cN bx (aa aaQ (aa aah ag))) (cN kY (aa (VL (c2 Wq (ae 3) aad) (c2 U5 aaI abg)) ag))))) [x0,some (.ref 0),x2,some (.int deep),x4,x5,some (.int v),x7,x8,x9,H_] (hp n js xs)=.ok (.str kd) (hp n js xs):=by
 have i0:=Hj n js xs;have d0:=tm n js xs;have p7:decide ((0:Int)<7)=true:=by decide
 have p3:decide ((0:Int)<3)=true:=by decide
 have a1:m_ [PV.int 7,PV.int 3] 1=some (.int 3):=rfl;have a0:m_ [PV.int 7,PV.int 3] 0=some (.int 7):=rfl;have t1:∀h,kY [.bl true] h=.ok (.int 1) h:=fun h=>rfl;have t0:∀h,kY [.bl false] h=.ok (.int 0) h:=fun h=>rfl
 obtain⟨k3,m3,h3⟩:∃kd:List Nat,(kd= []∨kd=Ra)∧m_ [PV.str [],.str [116,119,110],.str [116,119,110],.str [108,109],.str [108,109],.str [98],.str [98]] (v % 3)=some (.str kd):=by
  rcases kw v with q|q|q<;>rw[q]
  ·exact⟨[],.inl rfl,rfl⟩
  ·exact⟨Ra,.inr rfl,rfl⟩
  ·exact⟨Ra,.inr rfl,rfl⟩
 obtain⟨k7,m7,h7⟩:∃kd:List Nat,kd∈ [[],Ra,[108,109],[98]]∧m_ [PV.str [],.str [116,119,110],.str [116,119,110],.str [108,109],.str [108,109],.str [98],.str [98]] (v % 7)=some (.str kd):=by
  rcases(by omega:v % 7=0∨v % 7=1∨v % 7=2∨v % 7=3∨v % 7=4∨v % 7=5∨v % 7=6)with q|q|q|q|q|q|q<;>rw[q]
  ·exact⟨[],by decide,rfl⟩
  ·exact⟨Ra,by decide,rfl⟩
  ·exact⟨Ra,by decide,rfl⟩
  ·exact⟨[108,109],by decide,rfl⟩
  ·exact⟨[108,109],by decide,rfl⟩
  ·exact⟨[98],by decide,rfl⟩
  ·exact⟨[98],by decide,rfl⟩
 have Z_:k3∈ [[],Ra,[108,109],[98]]:=by rcases m3 with rfl|rfl<;>decide
 by_cases hd:deep<1
 ·refine⟨k3,Z_,fun _=>m3,?_⟩;simp only[EV,hd,decide_true,a1,t1,p3,h3]
 ·by_cases hn:24<n
  ·refine⟨k3,Z_,fun q=>absurd q hd,?_⟩;simp only[EV,hd,decide_false,d0,i0,hn,decide_true,a1,t1,p3,h3]
  ·refine⟨k7,m7,fun q=>absurd q hd,?_⟩;simp only[EV,hd,decide_false,d0,i0,hn,a0,t0,p7,h7]
theorem aD{f g:Sx}{ρ ρ1:Ev}{h h1:List L3.PO}(e:f ρ h=.nx ρ1 h1):ak f g ρ h=g ρ1 h1:=by unfold ak;rw[e]
theorem bj{i:Nat}{f:Ex}{ρ:Ev}{h h1:List L3.PO}{v:PV}(e:f ρ h=.ok v h1):aC i f ρ h=.nx (ρ.set i (some v)) h1:=by unfold aC;rw[e];rfl
theorem bQ(cs:List Int):(PV.lst (cs.map PV.int)).pure=true:=by
 rw[PV.pure]
 induction cs with
 |nil=>rfl
 |cons a r ih=>rw[List.map_cons,aI,ih];rfl
theorem yo(k:Nat)(cs:List Int)(hc:cs.length≤32)(n:Int)(h0:0≤n)(h1:n≤1000000)(at_:PV)(deep:Int)(js:List PO)(xs:List PV)(x4 x5 x6 x7 x8 x9 H_:Option PV):
  ∃v kd,0≤v∧kd∈ [[],Ra,[108,109],[98]]∧(deep<1→kd= []∨kd=Ra)∧∀g:Sx,
   (ak (aC 6 (bp (L (k+1) .D_) aaB)) (ak (aC 7 (c2 d7 (cN bx (aa aai (aa aa6 (aa aa6 (aa (cK (.str [108,109])) (aa (cK (.str [108,109])) (aa aa9 (aa aa9 ag)))))))) (c2 aU (ae 6) (c2 d7 (cN bx (aa aaQ (aa aah ag))) (cN kY (aa (VL (c2 Wq (ae 3) aad) (c2 U5 aaI abg)) ag)))))) g)) [some (.lst (cs.map PV.int)),some (.ref 0),some at_,some (.int deep),x4,x5,x6,x7,x8,x9,H_] (hp n js xs)=g [some (.lst (cs.map PV.int)),some (.ref 0),some at_,some (.int deep),x4,x5,some (.int v),some (.str kd),x8,x9,H_] (hp (n+1) js xs):=by
 obtain⟨v,v0,v1,ev⟩:=lO k cs hc n h0 h1;obtain⟨kd,k1,k2,k3⟩:=Jj v deep (n+1) js xs (some (.lst (cs.map PV.int))) (some at_) x4 x5 x7 x8 x9 H_;refine⟨v,kd,v0,k1,k2,fun g=>?_⟩;have cl:=mX (js:=js) (xs:=xs) (rest:=[]) (bQ cs) rfl ev rfl
 have c6:bp (L (k+1) .D_) aaB [some (.lst (cs.map PV.int)),some (.ref 0),some at_,some (.int deep),x4,x5,x6,x7,x8,x9,H_] (hp n js xs)=.ok (.int v) (hp (n+1) js xs):=by have d0:=tm n js xs;simp only[EV,d0,cl]
 rw[aD (bj (i:=6) c6)];exact aD (bj (i:=7) k3)
theorem Hb{kd:List Nat}(h:kd∈ [[],Ra,[108,109],[98]]):J_ kd=true:=by simp only[List.mem_cons,List.not_mem_nil,or_false]at h;rcases h with rfl|rfl|rfl|rfl<;>decide
theorem yp(k:Nat)(c0 V3:PV)(sc:List Si)(hs:sc.length≤40)(u:Bool)(deep v:Int)(kd:List Nat)(hk:kd∈ [[],Ra,[108,109],[98]])(h:List L3.PO)(x4 x5 x8 x9 H_:Option PV):
  ∃fv path own,((∃x∈sc,kd.contains x.2.2=true∧path=.tup ((x.1::x.2.1).map PV.str)∧own= [x.2.2])∨(path=.non∧own= []))∧∀g:Sx,
   (ak (aC 8 (cN QH (bG [7] (eY aaz) (bW (F k)) (bZ (F k))))) (ak (ko (Nm 2 (ar (n8 9) (ar (n8 10) bv))) (c2 d7 (c2 aT (ae 8) (cN bx (aa (cN au (aa aay (aa aai ag))) ag))) (c2 aU abt (cN uI (aa aad (aa (cN gI abE) ag)))))) g)) [some c0,some (.ref 0),some (.tup [.lst (sc.map it),V3,.bl u]),some (.int deep),x4,x5,some (.int v),some (.str kd),x8,x9,H_] h=g [some c0,some (.ref 0),some (.tup [.lst (sc.map it),V3,.bl u]),some (.int deep),x4,x5,some (.int v),some (.str kd),some fv,some path,some (.str own)] h:=by
 have ft:=qY k kd (Hb hk) h sc;have a0:m_ [PV.lst (sc.map it),V3,.bl u] 0=some (.lst (sc.map it)):=rfl;have ln:(sc.map it).length<16777216:=by rw[List.length_map];omega
 have cp:∀(a b c d e f g' i j l:Option PV),dL [7] [a,b,c,d,e,f,g',some (PV.str kd),i,j,l]=[some (.str kd)]:=fun _ _ _ _ _ _ _ _ _ _=>rfl;have lf:(jh kd sc).length≤40:=Nat.le_trans (List.length_filter_le _ _) hs
 have c8:(cN QH (bG [7] (eY aaz) (bW (F k)) (bZ (F k)))) [some c0,some (.ref 0),some (.tup [.lst (sc.map it),V3,.bl u]),some (.int deep),x4,x5,some (.int v),some (.str kd),x8,x9,H_] h=.ok (.lst ((jh kd sc).map it)) h:=by simp only[EV,a0,ln,cp,ft]
 have p7:decide ((0:Int)<7∧(7:Int)<1073741824)=true:=by decide
 have ll:∀h,gI [.lst ((jh kd sc).map it)] h=.ok (.int ((jh kd sc).length:Nat)) h:=fun h=>by rw[EI,List.length_map]
 have al:((jh kd sc).map it).length+1≤16777216:=by rw[List.length_map];omega
 have mp:decide ((0:Int)<if((jh kd sc).length:Int)>1 then((jh kd sc).length:Int)else 1)=true:=by
  apply decide_eq_true
  split<;>omega
 have go:∀(P:PV)(O:List Nat),m_ ((jh kd sc).map it++ [.tup [.non,.str []]]) (v / 7 % (if((jh kd sc).length:Int)>1 then((jh kd sc).length:Int)else 1))=some (.tup [P,.str O])→ko (Nm 2 (ar (n8 9) (ar (n8 10) bv))) (c2 d7 (c2 aT (ae 8) (cN bx (aa (cN au (aa aay (aa aai ag))) ag))) (c2 aU abt (cN uI (aa aad (aa (cN gI abE) ag))))) [some c0,some (.ref 0),some (.tup [.lst (sc.map it),V3,.bl u]),some (.int deep),x4,x5,some (.int v),some (.str kd),some (.lst ((jh kd sc).map it)),x9,H_] h=.nx [some c0,some (.ref 0),some (.tup [.lst (sc.map it),V3,.bl u]),some (.int deep),x4,x5,some (.int v),some (.str kd),some (.lst ((jh kd sc).map it)),some P,some (.str O)] h:=fun P O e=>by generalize(jh kd sc).map it=fl at*;have d2:ay h (.tup [P,.str O])=.tup [P,.str O]:=rfl;simp only[EV,ll,al,p7,mp,e,d2]
 rcases CZ (jh kd sc) v with⟨x,hx,e⟩|⟨_,e⟩
 ·obtain⟨m1,m2⟩:=List.mem_filter.mp hx;refine⟨.lst ((jh kd sc).map it),.tup ((x.1::x.2.1).map PV.str),[x.2.2],.inl ⟨x,m1,m2,rfl,rfl⟩,fun g=>?_⟩;rw[aD (bj (i:=8) c8)];exact aD (go _ _ e)
 ·refine⟨.lst ((jh kd sc).map it),.non,[],.inr ⟨rfl,rfl⟩,fun g=>?_⟩;rw[aD (bj (i:=8) c8)];exact aD (go _ _ e)
def ka(k:Nat):Sx:=(v9 (aB (c2 Vm (ae 9) aay)) (bY (cM cz ba (ae 4) (aa (cN au (aa aae (aa (aA (F k .Mr) (aa abt ag)) ag))) ag))) (v9 (aB (c2 Rz (ae 10) aa6)) (aC 4 (c2 gm (ae 4) (aA (F k .G_) (aa (ae 9) (aa (ae 10) (aa abp (aa (c2 bA (ae 6) (cK (.int 49))) ag))))))) (v9 (aB (c2 m9 (ae 10) aa9)) (aC 4 (c2 gm (ae 4) (bp (L k .A_) (aa (ae 0) (aa (ae 1) (aa (ae 2) (aa (ae 9) aaA))))))) (aC 4 (c2 gm (ae 4) (bp (L k .K5) (aa (ae 0) (aa (ae 1) (aa (ae 2) (aa (ae 9) (aa (ae 10) aaA)))))))))))
theorem HQ(k:Nat):eF (F k) (L k)=ak (aC 6 (bp (L k .D_) aaB)) (ak (aC 7 (c2 d7 (cN bx (aa aai (aa aa6 (aa aa6 (aa (cK (.str [108,109])) (aa (cK (.str [108,109])) (aa aa9 (aa aa9 ag)))))))) (c2 aU (ae 6) (c2 d7 (cN bx (aa aaQ (aa aah ag))) (cN kY (aa (VL (c2 Wq (ae 3) aad) (c2 U5 aaI abg)) ag)))))) (ak (aC 8 (cN QH (bG [7] (eY aaz) (bW (F k)) (bZ (F k))))) (ak (ko (Nm 2 (ar (n8 9) (ar (n8 10) bv))) (c2 d7 (c2 aT (ae 8) (cN bx (aa (cN au (aa aay (aa aai ag))) ag))) (c2 aU abt (cN uI (aa aad (aa (cN gI abE) ag)))))) (ka k)))):=rfl
theorem xG(k:Nat)(n v:Int)(js:List PO)(A:j9)(hA:(b_ A).length<16777216)(y0 y1 y2 y3 y5 y7 y8 Ph:Option PV):∃c s,J_ (c::s)=true∧(c::s).length≤3∧
  ka (k+2) [y0,y1,y2,y3,some (.ref (js.length+1)),y5,some (.int v),y7,y8,some .non,Ph] (hp n js (b_ A))=.nx [y0,y1,y2,y3,some (.ref (js.length+1)),y5,some (.int v),y7,y8,some .non,Ph] (hp n js (b_ (O6 A (.text c s)))):=by
 obtain⟨c,s,e,el,eo⟩:=vZ k (v / 7);refine⟨c,s,eo,el,?_⟩;have p7:decide ((0:Int)<7∧(7:Int)<1073741824)=true:=by decide
 have j2:fh .non=true:=rfl;have d4:=mH n js (b_ A);have li:=Hk n js (b_ A);have ap:=fun p=>Be n js (b_ A) p hA;rw[dk,nd];simp only[EV,ka,j2,d4,li,p7,ai,e,ap]
theorem ui(k:Nat)(n v:Int)(js:List PO)(A:j9)(hA:(b_ A).length≤1000)(p:PV)(O4:dP p=true)(c:Nat)(hc:c∈Ra)(u:Bool)(a0 a1:PV)(y0 y1 y3 y5 y7 y8:Option PV):∃ns,Fw u ns 0 2 4 14∧1≤(b_ ns).length∧
  ka (k+4) [y0,y1,some (.tup [a0,a1,.bl u]),y3,some (.ref (js.length+1)),y5,some (.int v),y7,y8,some p,some (.str [c])] (hp n js (b_ A))=.nx [y0,y1,some (.tup [a0,a1,.bl u]),y3,some (.ref ((js++ [PO.lst (b_ A)]).length+1)),y5,some (.int v),y7,y8,some p,some (.str [c])] (hp n (js++ [.lst (b_ A)]) (b_ (apN A ns))):=by
 obtain⟨ns,e,fw,f1⟩:=Am k p O4 c hc u (v / 49);refine⟨ns,fw,f1,?_⟩;have fn:=fw.n;have p49:decide ((0:Int)<49∧(49:Int)<1073741824)=true:=by decide
 have dp:∀h,ay h p=p:=fun h=>by cases p<;>first|rfl|cases O4
 have nn:fh p=false:=by cases p<;>first|rfl|cases O4
 have fp:=fun h=>cH h (fS O4);have d4:=mH n js (b_ A);have i1:eT [c] [116,119,110]=true:=by rw[eI];simpa[Ra]using hc
 have at2:m_ [a0,a1,PV.bl u] 2=some (.bl u):=rfl;have ad:=vj n js (b_ A) (b_ ns) (by omega);rw[fG];simp only[EV,ka,nn,dp,d4,i1,at2,p49,ai,fp,e,ad]
theorem si(k:Nat)(n n' v deep:Int)(js:List PO)(A ns:j9)(hA:(b_ A).length≤1000)(hn:(b_ ns).length≤1000)(wn:u9 ns=true)(cl at_ p:PV)(Y0:cl.pure=true)(W6:at_.pure=true)(O4:dP p=true)(Zd:∀h,ay h cl=cl)(X3:∀h,ay h at_=at_)
  (e:L k .A_ [cl,.ref 0,at_,p,.int deep] [o8 n]=.ok (.lst (b_ ns)) [o8 n']) (y5 y7 y8:Option PV):
  ka k [some cl,some (.ref 0),some at_,some (.int deep),some (.ref (js.length+1)),y5,some (.int v),y7,y8,some p,some (.str [98])] (hp n js (b_ A))=.nx [some cl,some (.ref 0),some at_,some (.int deep),some (.ref ((js++ [PO.lst (b_ A)]).length+1)),y5,some (.int v),y7,y8,some p,some (.str [98])] (hp n' (js++ [.lst (b_ A)]) (b_ (apN A ns))):=by
 have dp:∀h,ay h p=p:=fun h=>by cases p<;>first|rfl|cases O4
 have nn:fh p=false:=by cases p<;>first|rfl|cases O4
 have d4:=mH n js (b_ A);have d0:=tm n js (b_ A);have i1:eT [98] [116,119,110]=false:=by rw[eI];rfl
 have eb:∀h,m9 (.str [98]) (.str [98]) h=.ok (.bl true) h:=fun h=>by kernel_rfl
 have cc:=mX (js:=js) (xs:=b_ A) (rest:=[at_,p,.int deep]) Y0 (by simp[aI,W6,fS O4,PV.pure]) e (by rw[PV.pure];exact aQ ns wn);have ad:=vj n' js (b_ A) (b_ ns) (by omega);rw[fG];simp only[EV,ka,nn,dp,Zd,X3,d4,d0,i1,eb,cc,ad]
theorem xH(k:Nat)(n n' v deep:Int)(c:Nat)(hc:c=108∨c=109)(js:List PO)(A ns:j9)(hA:(b_ A).length≤1000)(hn:(b_ ns).length≤1000)(wn:u9 ns=true)(cl at_ p:PV)(Y0:cl.pure=true)(W6:at_.pure=true)(O4:dP p=true)(Zd:∀h,ay h cl=cl)(X3:∀h,ay h at_=at_)
  (e:L k .K5 [cl,.ref 0,at_,p,.str [c],.int deep] [o8 n]=.ok (.lst (b_ ns)) [o8 n']) (y5 y7 y8:Option PV):
  ka k [some cl,some (.ref 0),some at_,some (.int deep),some (.ref (js.length+1)),y5,some (.int v),y7,y8,some p,some (.str [c])] (hp n js (b_ A))=.nx [some cl,some (.ref 0),some at_,some (.int deep),some (.ref ((js++ [PO.lst (b_ A)]).length+1)),y5,some (.int v),y7,y8,some p,some (.str [c])] (hp n' (js++ [.lst (b_ A)]) (b_ (apN A ns))):=by
 have dp:∀h,ay h p=p:=fun h=>by cases p<;>first|rfl|cases O4
 have nn:fh p=false:=by cases p<;>first|rfl|cases O4
 have d4:=mH n js (b_ A);have d0:=tm n js (b_ A);have i1:eT [c] [116,119,110]=false:=by rw[eI];rcases hc with rfl|rfl<;>rfl
 have eb:∀h,m9 (.str [c]) (.str [98]) h=.ok (.bl false) h:=fun h=>by rcases hc with rfl|rfl<;>kernel_rfl
 have cc:=mX (js:=js) (xs:=b_ A) (rest:=[at_,p,.str [c],.int deep]) Y0 (by simp[aI,W6,fS O4,PV.pure]) e (by rw[PV.pure];exact aQ ns wn);have ad:=vj n' js (b_ A) (b_ ns) (by omega);rw[fG];simp only[EV,ka,nn,dp,Zd,X3,d4,d0,i1,eb,cc,ad]
abbrev cv(cs:List Int):PV:=.lst (cs.map PV.int)
abbrev av(sc:List Si)(ls:List (List Nat))(u:Bool):PV:=.tup [.lst (sc.map it),.lst (ls.map PV.str),.bl u]
theorem mV:b_ .nil= []:=by rw[b_]
theorem xt(sc:List Si)(ls:List (List Nat))(u:Bool):(av sc ls u).pure=true:=by simp[PV.pure,aI,gK,ce]
def Got(u:Bool)(r:Res PV)(n:Int)(d a t z c:Nat):Prop:=∃ns n',r=.ok (.lst (b_ ns)) [o8 n']∧Fw u ns d a t z∧1≤(b_ ns).length∧n≤n'∧n'≤n+(c:Int)
theorem cu{g:Gx}{b:Sx}{p:PV}{r:List PV}{ρ ρ1 ρ2:Ev}{h h2:List L3.PO}(hg:g p ρ=some ρ1)(hb:b ρ1 h=.nx ρ2 h2):aZ g b (p::r) ρ h=aZ g b r ρ2 h2:=by simp only[aZ,hg,hb]
theorem kR{f:Sx}{np n:Nat}{ps:List PV}{h h1:List L3.PO}{v:PV}{r:Res PV}(hl:ps.length=np)(e:f (ps.map some++List.replicate (n - ps.length) none) h=.rt v h1)(g:qZ h.length v h1=r):hJ f np n ps h=r:=by unfold hJ;rw[if_pos hl,e];exact g
theorem uS(k:Nat)(cs:List Int)(hc:cs.length≤32)(sc:List Si)(hs:sc.length≤40)(hok:∀x∈sc,ki x)(ls:List (List Nat))(u:Bool)(d z c:Nat)(hz:14≤z)
  (CL:1≤d→∀m:Int,0≤m→m+(c:Int)≤1000000→∀p,dP p=true→Got u (L (k+4) .A_ [cv cs,.ref 0,av sc ls u,p,.int d] [o8 m]) m d 2 4 z c∧∀q,q=108∨q=109→Got u (L (k+4) .K5 [cv cs,.ref 0,av sc ls u,p,.str [q],.int d] [o8 m]) m d 2 4 z c)
  (n:Int) (h0:0≤n) (h1:n+1+(c:Int)≤1000000) (js:List PO) (A:j9) (hA:(b_ A).length≤1000) (x5 x6 x7 x8 x9 H_:Option PV):
  ∃(Ov:List PO)(B:j9)(n':Int)(y6 y7 y8 y9 Ph:Option PV),eF (F (k+4)) (L (k+4)) [some (cv cs),some (.ref 0),some (av sc ls u),some (.int d),some (.ref (js.length+1)),x5,x6,x7,x8,x9,H_] (hp n js (b_ A))=.nx [some (cv cs),some (.ref 0),some (av sc ls u),some (.int d),some (.ref (Ov.length+1)),x5,y6,y7,y8,y9,Ph] (hp n' Ov (b_ (apN A B)))∧Fw u B d 2 4 z∧1≤(b_ B).length∧n≤n'∧n'≤n+1+(c:Int):=by
 obtain⟨v,kd,_,hk,hd,e1⟩:=yo (k+3) cs hc n h0 (by omega) (av sc ls u) d js (b_ A) (some (.ref (js.length+1))) x5 x6 x7 x8 x9 H_;obtain⟨fv,path,own,pk,e2⟩:=yp (k+4) (cv cs) (.lst (ls.map PV.str)) sc hs u d v kd hk (hp (n+1) js (b_ A)) (some (.ref (js.length+1))) x5 x8 x9 H_
 have go:eF (F (k+4)) (L (k+4)) [some (cv cs),some (.ref 0),some (av sc ls u),some (.int d),some (.ref (js.length+1)),x5,x6,x7,x8,x9,H_] (hp n js (b_ A))=ka (k+4) [some (cv cs),some (.ref 0),some (av sc ls u),some (.int d),some (.ref (js.length+1)),x5,some (.int v),some (.str kd),some fv,some path,some (.str own)] (hp (n+1) js (b_ A)):=by rw[HQ];exact(e1 _).trans (e2 _)
 rw[go];rcases pk with⟨x,hx,hkd,rfl,rfl⟩|⟨rfl,rfl⟩
 ·have dp:=Ip (hok x hx)
  by_cases t:x.2.2∈Ra
  ·obtain⟨ns,fw,f1,e3⟩:=ui k (n+1) v js A hA _ dp x.2.2 t u (.lst (sc.map it)) (.lst (ls.map PV.str)) (some (cv cs)) (some (.ref 0)) (some (.int d)) x5 (some (.str kd)) (some fv);exact⟨_,ns,n+1,_,_,_,_,_,e3,fw.mono (Nat.zero_le _) (Nat.le_refl _) (Nat.le_refl _) hz,f1,by omega,by omega⟩
  ·have hd1:1≤d:=by
    rcases Nat.eq_zero_or_pos d with q|q
    ·exfalso;rcases hd (by omega)with r|r
     ·rw[r]at hkd;simp at hkd
     ·rw[r]at hkd;exact t (by simpa using hkd)
    ·exact q
   obtain⟨ch,lp⟩:=CL hd1 (n+1) (by omega) (by omega) _ dp
   by_cases q:x.2.2=98
   ·obtain⟨ns,n',e,fw,f1,l1,l2⟩:=ch;have fn:=fw.n;have e3:=si (k+4) (n+1) n' v d js A ns hA (by omega) fw.w (cv cs) (av sc ls u) _ (bQ cs) (xt sc ls u) dp (fun _=>rfl) (fun _=>rfl) e x5 (some (.str kd)) (some fv);rw[q];exact⟨_,ns,n',_,_,_,_,_,e3,fw,f1,by omega,by omega⟩
   ·have kx:=(hok x hx).2.2
    have q2:x.2.2=108∨x.2.2=109:=by
     simp only[knd,List.mem_cons,List.not_mem_nil,or_false]at kx;rcases kx with e|e|e|e|e|e
     ·exact absurd (by rw[e];decide) t
     ·exact absurd (by rw[e];decide) t
     ·exact absurd (by rw[e];decide) t
     ·exact absurd e q
     ·exact .inl e
     ·exact .inr e
    obtain⟨ns,n',e,fw,f1,l1,l2⟩:=lp x.2.2 q2;have fn:=fw.n;have e3:=xH (k+4) (n+1) n' v d x.2.2 q2 js A ns hA (by omega) fw.w (cv cs) (av sc ls u) _ (bQ cs) (xt sc ls u) dp (fun _=>rfl) (fun _=>rfl) e x5 (some (.str kd)) (some fv);exact⟨_,ns,n',_,_,_,_,_,e3,fw,f1,by omega,by omega⟩
 ·obtain⟨c',s,ho,hl,e3⟩:=xG (k+2) (n+1) v js A (by omega) (some (cv cs)) (some (.ref 0)) (some (av sc ls u)) (some (.int d)) x5 (some (.str kd)) (some fv) (some (.str []));rw[um]at e3;exact⟨js,_,n+1,_,_,_,_,_,e3,(Fw.text ho hl (by decide)).mono (Nat.zero_le _) (by decide) (by decide) (by omega),by rw[b_,List.length_cons];omega,by omega,by omega⟩
theorem nT(k:Nat)(cs:List Int)(hc:cs.length≤32)(sc:List Si)(hs:sc.length≤40)(hok:∀x∈sc,ki x)(ls:List (List Nat))(u:Bool)(d z c:Nat)(hz:14≤z)
  (CL:1≤d→∀m:Int,0≤m→m+(c:Int)≤1000000→∀p,dP p=true→Got u (L (k+4) .A_ [cv cs,.ref 0,av sc ls u,p,.int d] [o8 m]) m d 2 4 z c∧∀q,q=108∨q=109→Got u (L (k+4) .K5 [cv cs,.ref 0,av sc ls u,p,.str [q],.int d] [o8 m]) m d 2 4 z c):
  ∀(xs:List PV)(n:Int)(js:List PO)(A:j9)(x5 x6 x7 x8 x9 H_:Option PV),0≤n→n+((xs.length * (1+c):Nat):Int)≤1000000→(b_ A).length+2 * xs.length≤1000→
  ∃(Ov:List PO)(B:j9)(n':Int)(y5 y6 y7 y8 y9 Ph:Option PV),aZ (n8 5) (eF (F (k+4)) (L (k+4))) xs [some (cv cs),some (.ref 0),some (av sc ls u),some (.int d),some (.ref (js.length+1)),x5,x6,x7,x8,x9,H_] (hp n js (b_ A))=.nx [some (cv cs),some (.ref 0),some (av sc ls u),some (.int d),some (.ref (Ov.length+1)),y5,y6,y7,y8,y9,Ph] (hp n' Ov (b_ (apN A B)))∧Fw u B d (2 * xs.length) (4 * xs.length) (xs.length * z)∧xs.length≤(b_ B).length∧n≤n'∧n'≤n+((xs.length * (1+c):Nat):Int)
 |[],n,js,A,x5,x6,x7,x8,x9,H_,h0,h1,hA=>by have e:apN A .nil=A:=tX A;exact⟨js,.nil,n,x5,x6,x7,x8,x9,H_,by rw[e];rfl,Fw.nil _ _ _ _,by simp,by omega,by simp⟩
 |x::r,n,js,A,x5,x6,x7,x8,x9,H_,h0,h1,hA=>by
  have e:(x::r).length * (1+c)=r.length * (1+c)+(1+c):=by rw[List.length_cons,Nat.succ_mul]
  have ez:(x::r).length * z=r.length * z+z:=by rw[List.length_cons,Nat.succ_mul]
  rw[e]at h1;rw[List.length_cons]at hA;generalize hT:r.length * (1+c)=T at h1 e;obtain⟨js1,B1,n1,a6,a7,a8,a9,a10,e1,f1,l1,p1,q1⟩:=uS k cs hc sc hs hok ls u d z c hz CL n h0 (by omega) js A (by omega) (some x) x6 x7 x8 x9 H_;have fn:=f1.n;have la:(b_ (apN A B1)).length=(b_ A).length+(b_ B1).length:=by rw[fG,List.length_append]
  obtain⟨js2,B2,n2,b5,b6,b7,b8,b9,Zi,e2,f2,l2,p2,q2⟩:=nT k cs hc sc hs hok ls u d z c hz CL r n1 js1 (apN A B1) (some x) a6 a7 a8 a9 a10 (by omega) (by rw[hT];omega) (by omega);rw[mC]at e2;rw[hT]at q2;refine⟨js2,apN B1 B2,n2,b5,b6,b7,b8,b9,Zi,(cu rfl e1).trans e2,?_,?_,by omega,by rw[e];omega⟩
  ·refine(f1.ap f2).mono (by omega) (by rw[List.length_cons];omega) (by rw[List.length_cons];omega) ?_;rw[ez];omega
  ·rw[fG,List.length_append,List.length_cons];omega
theorem sR(k:Nat)(cs:List Int)(hc:cs.length≤32)(sc:List Si)(hs:sc.length≤40)(hok:∀x∈sc,ki x)(ls:List (List Nat))(u:Bool)(d z c:Nat)(hz:14≤z)
  (CL:1≤d→∀m:Int,0≤m→m+(c:Int)≤1000000→∀p,dP p=true→Got u (L (k+4) .A_ [cv cs,.ref 0,av sc ls u,p,.int d] [o8 m]) m d 2 4 z c∧∀q,q=108∨q=109→Got u (L (k+4) .K5 [cv cs,.ref 0,av sc ls u,p,.str [q],.int d] [o8 m]) m d 2 4 z c)
  (n:Int) (h0:0≤n) (h1:n+((5+4 * c:Nat):Int)≤1000000):Got u (L (k+5) .u_ [cv cs,.ref 0,av sc ls u,.int d] [o8 n]) n d 8 16 (4 * z) (5+4 * c):=by
 obtain⟨v,v0,_,ev⟩:=lO (k+3) cs hc n h0 (by omega);have cl:=mX (js:=[]) (xs:=[]) (rest:=[]) (bQ cs) rfl ev rfl;have t0:=Int.emod_nonneg (v / 5) (by decide:(4:Int)≠0);have t1:=Int.emod_lt_of_pos (v / 5) (by decide:(0:Int)<4);have bz:Rv 4611686018427387904 (1+v / 5 % 4)=true:=du.mpr ⟨by omega,by omega⟩
 have lx:1≤((List.range (1+v / 5 % 4).toNat).map fun i=>PV.int (0+(i:Nat))).length∧((List.range (1+v / 5 % 4).toNat).map fun i=>PV.int (0+(i:Nat))).length≤4:=by rw[List.length_map,List.length_range];omega
 have rg:bD (aa (c2 aT aad (c2 aU (c2 bA (bp (L (k+4) .D_) aaB) aaK) aaF)) ag) [some (cv cs),some (.ref 0),some (av sc ls u),some (.int d),some (.ref 1),none,none,none,none,none,none] (hp n [] [])=.ok ((List.range (1+v / 5 % 4).toNat).map fun i=>PV.int (0+(i:Nat))) (hp (n+1) [] []):=by
  have d0:=tm n [] [];have p5:decide ((0:Int)<5∧(5:Int)<1073741824)=true:=by decide
  have p4:decide ((0:Int)<4)=true:=by decide
  have c1:bp (L (k+4) .D_) aaB [some (cv cs),some (.ref 0),some (av sc ls u),some (.int d),some (.ref 1),none,none,none,none,none,none] (hp n [] [])=.ok (.int v) (hp (n+1) [] []):=cl;simp only[mn,rc,vy,Jz,Hq,c1,Res.G4,HA,IV,aU,bA,p5,p4,if_true,bz]
 generalize((List.range (1+v / 5 % 4).toNat).map fun i=>PV.int (0+(i:Nat)))=xs at lx rg;have m4:xs.length * (1+c)≤4 * (1+c):=Nat.mul_le_mul_right _ lx.2;have mz:xs.length * z≤4 * z:=Nat.mul_le_mul_right _ lx.2;obtain⟨Ov,B,n',y5,y6,y7,y8,y9,Ph,e,fw,l1,l2,l3⟩:=nT k cs hc sc hs hok ls u d z c hz CL xs (n+1) [] .nil none none none none none none (by omega) (by omega) (by rw[mV];simp;omega);refine⟨B,n',?_,fw.mono (Nat.le_refl _) (by omega) (by omega) mz,by omega,by omega,by omega⟩;rw[eX,mV]at e
 have fr:dD (bD (aa (c2 aT aad (c2 aU (c2 bA (bp (L (k+4) .D_) aaB) aaK) aaF)) ag)) (n8 5) (eF (F (k+4)) (L (k+4))) [some (cv cs),some (.ref 0),some (av sc ls u),some (.int d),some (.ref 1),none,none,none,none,none,none] (hp n [] [])=.nx [some (cv cs),some (.ref 0),some (av sc ls u),some (.int d),some (.ref (Ov.length+1)),y5,y6,y7,y8,y9,Ph] (hp n' Ov (b_ B)):=by unfold dD;rw[rg];exact e
 have dr:=mH n' Ov (b_ B);have e4:aC 4 abn [some (cv cs),some (.ref 0),some (av sc ls u),some (.int d),none,none,none,none,none,none,none] [o8 n]=.nx [some (cv cs),some (.ref 0),some (av sc ls u),some (.int d),some (.ref 1),none,none,none,none,none,none] (hp n [] []):=rfl
 have bd:fL (F (k+4)) (L (k+4)) [some (cv cs),some (.ref 0),some (av sc ls u),some (.int d),none,none,none,none,none,none,none] [o8 n]=.rt (.ref (Ov.length+1)) (hp n' Ov (b_ B)):=by unfold fL;rw[aD e4,aD fr];have q:ae 4 [some (cv cs),some (.ref 0),some (av sc ls u),some (.int d),some (.ref (Ov.length+1)),y5,y6,y7,y8,y9,Ph] (hp n' Ov (b_ B))=.ok (.ref (Ov.length+1)) (hp n' Ov (b_ B)):=congrArg (fun p=>Res.ok p (hp n' Ov (b_ B))) dr;unfold aP;rw[q];rfl
 show hJ (fL (F (k+4)) (L (k+4))) 4 11 [cv cs,.ref 0,av sc ls u,.int d] [o8 n]=_;exact kR (f:=fL (F (k+4)) (L (k+4))) (np:=4) (n:=11) rfl bd (Hl n' Ov (b_ B) (aQ B fw.w))
theorem vw(n:Int)(t:List PO){v:PV}(hv:v.pure=true):qZ 1 v (o8 n::t)=.ok v [o8 n]:=by
 unfold qZ;rw[cH _ hv];show oY 1 v (o8 n::t)=_;unfold oY;rw[if_pos]
 ·rfl
 ·show(bS [o8 n]&&Nat.ble 1 (t.length+1))=true;rw[show bS [o8 n]=true by simp[bS,PO.pure,aI,PV.pure],Bool.true_and,Nat.ble_eq];omega
theorem ib{fn:List PV→List PO→Res PV}{p v:PV}{rest:List PV}{n n':Int}{t:List PO}(Vr:p.pure=true)(hr:aI rest=true)(e:fn (p::.ref 0::rest) [o8 n]=.ok v [o8 n'])(hv:v.pure=true):gR fn (p::.ref 0::rest) (o8 n::t)=.ok v (o8 n'::t):=
 qq Vr hr rfl (kM n) e hv (kM n')
theorem qU(n:Int)(js:List PO)(xs:List PV)(i:Int){v:PV}(e:m_ xs i=some v)(hv:v.pure=true):d7 (.ref (js.length+1)) (.int i) (hp n js xs)=.ok v (hp n js xs):=by
 have a:Ru (hp n js xs) (.ref (js.length+1))=none:=by show(match(hp n js xs)[js.length+1]? with|some (.dct kvs)=>some kvs|_=>none)=_;rw[kA]
 have b:Q9 (hp n js xs) (.ref (js.length+1))=some xs:=vi n js xs;have c:=bB (hp n js xs) hv;unfold d7;simp only[a,b,e,c]
theorem Bc(n:Int)(js:List PO)(xs:List PV)(i:Int)(j:Nat)(v:PV)(ρ:Ev)(e:SM xs.length i=some j):jq v (.ref (js.length+1)) (.int i) ρ (hp n js xs)=.nx ρ (hp n js (xs.set j v)):=by unfold jq;simp only[wQ,e,Bd]
theorem dX{A:j9}(h:u9 A=true):(PV.lst (b_ A)).pure=true:=by rw[PV.pure];exact aQ A h
def Tg(A B:j9)(c:Nat):Bool:=RP A c&&RP B c&&!(Qs A&&Qs B)&&decide (hdT A≠hdT B)
theorem JH{A B:j9}{c a b:Nat}(hA:hdT A=some a)(hB:hdT B=some b)(h:Tg A B c=true):Tg .nil B c=true∧Tg A .nil c=true:=by
 have iA:Qs A=false:=by cases A<;>first|rfl|cases hA
 have iB:Qs B=false:=by cases B<;>first|rfl|cases hB
 simp only[Tg,Bool.and_eq_true]at h;obtain⟨⟨⟨s1,s2⟩,_⟩,_⟩:=h;have n1:RP .nil c=true:=rfl;have g0:Qs .nil=true:=rfl;have g1:hdT .nil=none:=rfl;have g2:decide ((none:Option Nat)≠some b)=true:=by simp
 have g3:decide ((some a:Option Nat)≠none)=true:=by simp
 refine⟨?_,?_⟩
 ·unfold Tg;rw[n1,s2,g0,iB,g1,hB,g2];rfl
 ·unfold Tg;rw[n1,s1,g0,iA,g1,hA,g3];rfl
theorem vD(n v:Int)(js:List PO)(A B:j9){u:Bool}{d a t z:Nat}(fA:Fw u A d a t z)(fB:Fw u B d a t z)(x0 x1 x2 x3 x4 x6 x8:Option PV):∃A' B',Fw u A' d a t z∧Fw u B' d a t z∧(∀c a b,hdT A=some a→hdT B=some b→Tg A B c=true→Tg A' B' c=true)∧
  v9 (aB (c2 m9 (c2 aU (c2 bA (ae 5) aaG) aah) aad)) (kj (ae 7) (c2 aU (c2 bA (ae 5) (cK (.int 285))) aag) aaZ) aW [x0,x1,x2,x3,x4,some (.int v),x6,some (.ref (js.length+1)),x8] (hp n js [.lst (b_ A),.lst (b_ B)])=.nx [x0,x1,x2,x3,x4,some (.int v),x6,some (.ref (js.length+1)),x8] (hp n js [.lst (b_ A'),.lst (b_ B')]):=by
 have RD:decide ((0:Int)<95∧(95:Int)<1073741824)=true:=by decide
 have Wr:decide ((0:Int)<285∧(285:Int)<1073741824)=true:=by decide
 have p3:decide ((0:Int)<3)=true:=by decide
 have p2:decide ((0:Int)<2)=true:=by decide
 have dr:=mH n js [.lst (b_ A),.lst (b_ B)]
 by_cases q:v / 95 % 3=1
 ·rcases(by omega:v / 285 % 2=0∨v / 285 % 2=1)with r|r
  ·refine⟨.nil,B,Fw.nil _ _ _ _,fB,fun c a b hA hB hc=>?_,?_⟩
   ·exact(JH hA hB hc).1
   have st:=fun ρ=>Bc n js [.lst (b_ A),.lst (b_ B)] 0 0 (.lst []) ρ rfl;rw[mV];simp only[EV,cP,RD,p3,Wr,p2,q,r,dr,st,decide_true]
  ·refine⟨A,.nil,fA,Fw.nil _ _ _ _,fun c a b hA hB hc=>?_,?_⟩
   ·exact(JH hA hB hc).2
   have st:=fun ρ=>Bc n js [.lst (b_ A),.lst (b_ B)] 1 1 (.lst []) ρ rfl;rw[mV];simp only[EV,cP,RD,p3,Wr,p2,q,r,dr,st,decide_true]
 ·refine⟨A,B,fA,fB,fun _ _ _ _ _ h=>h,?_⟩;simp only[EV,cP,RD,p3,q,decide_false]
theorem zt{A B:j9}(h:hdT B=hdT A)(i:Qs A=true→Qs B=true){c:Nat}(s:RP A c=true):RP B c=true:=by
 unfold RP at s ⊢;rw[h]
 cases z:Qs A with
 |true=>rw[i z];rfl
 |false=>rw[z,Bool.false_or]at s;rw[s,Bool.or_true]
theorem IZ{A B A' B':j9}(h:hdT A'=hdT A)(g:hdT B'=hdT B)(_:(!(Qs A&&Qs B))=true)(c:decide (hdT A≠hdT B)=true):(Qs A'&&Qs B')=false:=by
 have c:=of_decide_eq_true c;rw[← h,← g]at c
 cases A' with
 |cons _ _=>rfl
 |nil=>cases B' with
  |cons _ _=>rfl
  |nil=>exact absurd rfl c
theorem yJ{u:Bool}{p:PV}(O4:dP p=true){A B:j9}{d t z:Nat}(fA:Fw u A d 9 t z)(fB:Fw u B d 9 t z):Fw false (.cons (.choice p A B) .nil) (d+1) 1 0 (2 * z):=by have a1:=fA.d;have a2:=fA.n;have a3:=fA.l;have a5:=fA.z;have b1:=fB.d;have b2:=fB.n;have b3:=fB.l;have b5:=fB.z;have c1:=jV A;have c2:=jV B;exact⟨by simp[u9,wf,O4,fA.w,fB.w],by simp only[aO,K_];omega,by simp[b_],by simp only[wm,Qo];omega,by simp[tl],by simp only[M9,tz];omega,fun q=>by cases q⟩
theorem Dx{u:Bool}{p:PV}{nm b:List Nat}(hq:dQ nm p=true)(hb:J_ b=true)(bl:b.length≤3){A:j9}{d t z:Nat}(fA:Fw u A d 9 t z):Fw false (.cons (.loop nm p A b) .nil) (d+1) 1 0 (z+3):=by have a1:=fA.d;have a2:=fA.n;have a3:=fA.l;have a5:=fA.z;have c1:=jV A;have tb:=mT hb (by omega);exact⟨by simp[u9,wf,hq,fA.w,tb],by simp only[aO,K_];omega,by simp[b_],by simp only[wm,Qo];omega,by simp[tl],by simp only[M9,tz];omega,fun q=>by cases q⟩
theorem pD(i:Int):J_ [J6 i]=true:=by unfold J_;rw[List.all_cons,List.contains_iff_mem.mpr (qI i)];rfl
theorem Fw.sg{u:Bool}(i:Int):Fw u (.cons (.text (J6 i) []) .nil) 0 1 1 1:=Fw.text (pD i) (by simp) (by decide)
theorem vC(k:Nat)(u:Bool)(n v m:Int)(js:List PO)(A B:j9){d z:Nat}(hd:d≤25)(fA:Fw u A d 9 17 z)(fB:Fw u B d 9 17 z)(p:PV)(O4:dP p=true)(a0 a1:PV)(Tr:u=true→Tg A B (J6 (m+2))=true)(x0 x1 x4 x8:Option PV):∃ns,Fw u ns (d+1) 2 4 (2 * z+1)∧1≤(b_ ns).length∧
  (ak (aC 8 (cN au (aa aaf (aa (ae 3) (aa (aA (F (k+1) .K4) (aa (c2 d7 (ae 7) aac) ag)) (aa (aA (F (k+1) .K4) (aa (c2 d7 (ae 7) aad) ag)) ag))))))
  (ak (v9 (di (eP (ci abp)) (aB (c2 m9 (c2 aU (c2 bA (ae 5) aaK) aag) aad))) (aP (cN bx abE)) aW)
  (aP (cN bx (aa (ae 8) (aa (cN au (aa aae (aa (c2 d7 (aA (F (k+1) .j_) ag) (c2 aU (c2 aT (ae 6) aag) aaG)) ag))) ag)))))) [x0,x1,some (.tup [a0,a1,.bl u]),some p,x4,some (.int v),some (.int m),some (.ref (js.length+1)),x8] (hp n js [.lst (b_ A),.lst (b_ B)])=.rt (.lst (b_ ns)) (hp n js [.lst (b_ A),.lst (b_ B)]):=by
 obtain⟨A2,eA,gA,_,hA,iA⟩:=nR k A fA hd (by decide) (by decide);obtain⟨B2,eB,gB,_,hB,iB⟩:=nR k B fB hd (by decide) (by decide);have dp:∀h,ay h p=p:=fun h=>bB h (fS O4);have i0:=qU n js [.lst (b_ A),.lst (b_ B)] 0 rfl (dX fA.w);have i1:=qU n js [.lst (b_ A),.lst (b_ B)] 1 rfl (dX fB.w);have dr:=mH n js [.lst (b_ A),.lst (b_ B)];have zA:=fun h=>fQ h (aQ A fA.w);have zB:=fun h=>fQ h (aQ B fB.w)
 have e8:aC 8 (cN au (aa aaf (aa (ae 3) (aa (aA (F (k+1) .K4) (aa (c2 d7 (ae 7) aac) ag)) (aa (aA (F (k+1) .K4) (aa (c2 d7 (ae 7) aad) ag)) ag))))) [x0,x1,some (.tup [a0,a1,.bl u]),some p,x4,some (.int v),some (.int m),some (.ref (js.length+1)),x8] (hp n js [.lst (b_ A),.lst (b_ B)])=.nx [x0,x1,some (.tup [a0,a1,.bl u]),some p,x4,some (.int v),some (.int m),some (.ref (js.length+1)),some (.tup [.str tC,p,.tup (b_ A2),.tup (b_ B2)])] (hp n js [.lst (b_ A),.lst (b_ B)]):=by simp only[EV,dp,dr,i0,i1,ai,zA,zB,eA,eB]
 rw[aD e8];have at2:m_ [a0,a1,PV.bl u] 2=some (.bl u):=rfl;have p5:decide ((0:Int)<5∧(5:Int)<1073741824)=true:=by decide
 have p2:decide ((0:Int)<2)=true:=by decide
 have RD:decide ((0:Int)<95)=true:=by decide
 have mk:=iG k;have sl:=xO;have sa:=jo (m+2);have fw:=yJ O4 gA gB;have n1:b_ (.cons (.choice p A2 B2) .nil)=[.tup [.str tC,p,.tup (b_ A2),.tup (b_ B2)]]:=by rw[b_,nd,b_]
 have n2:b_ (apN (.cons (.choice p A2 B2) .nil) (.cons (.text (J6 (m+2)) []) .nil))=[.tup [.str tC,p,.tup (b_ A2),.tup (b_ B2)],.tup [.str tT,.str [J6 (m+2)]]]:=by rw[fG,n1,b_,nd,b_];rfl
 have td:u=true→Om (apN (.cons (.choice p A2 B2) .nil) (.cons (.text (J6 (m+2)) []) .nil))=true:=fun q=>by have c:=Tr q;have tA:=gA.c q;have tB:=gB.c q;have sA:RP A (J6 (m+2))=true→RP A2 (J6 (m+2))=true:=zt hA iA;have sB:RP B (J6 (m+2))=true→RP B2 (J6 (m+2))=true:=zt hB iB;simp only[Tg,Bool.and_eq_true]at c;obtain⟨⟨⟨c1,c2⟩,c3⟩,c4⟩:=c;have c5:(Qs A2&&Qs B2)=false:=IZ hA hB c3 c4;rw[← hA,← hB]at c4;simp only[apN,Om,Ry,wU,sA c1,sB c2,c4,c5,tA,tB];rfl
 have f2:=((fw.ap (Fw.sg (m+2))).up td).mono (d':=d+1) (a':=2) (t':=4) (z':=2 * z+1) (by omega) (by omega) (by omega) (by omega);have f1:=fw.mono (d':=d+1) (a':=2) (t':=4) (z':=2 * z+1) (by omega) (by omega) (by omega) (by omega);have dN:∀h,ay h (PV.tup [.str tC,p,.tup (b_ A2),.tup (b_ B2)])=.tup [.str tC,p,.tup (b_ A2),.tup (b_ B2)]:=fun _=>rfl;generalize PV.tup [.str tC,p,.tup (b_ A2),.tup (b_ B2)]=N at n1 n2 dN ⊢
 cases u with
 |true=>refine⟨_,f2,by rw[n2];simp,?_⟩;rw[n2];simp only[EV,at2,dN,ai,mk,RD,sa,sl]
 |false=>
  by_cases q:v / 5 % 2=1
  ·refine⟨_,f1,by rw[n1];simp,?_⟩;rw[n1];simp only[EV,at2,dN,cP,p5,p2,q,decide_true]
  ·refine⟨_,f2,by rw[n2];simp,?_⟩;rw[n2];simp only[EV,at2,dN,cP,p5,p2,q,decide_false,ai,mk,RD,sa,sl]
theorem rB(k:Nat)(cs:List Int)(sc:List Si)(ls:List (List Nat))(u:Bool)(d:Nat)(n1 n2 n3:Int)(A B:j9)(wA:u9 A=true)(wB:u9 B=true)
  (eA:L k .u_ [cv cs,.ref 0,av sc ls u,.int d] [o8 n1]=.ok (.lst (b_ A)) [o8 n2]) (eB:L k .u_ [cv cs,.ref 0,av sc ls u,.int d] [o8 n2]=.ok (.lst (b_ B)) [o8 n3]):
  be bX (bU (F k) (L k)) [some (cv cs),some (.ref 0),some (av sc ls u),some (.int ((d+1:Nat):Int))] ((List.range (Int.toNat 2)).map fun i=>PV.int (0+(i:Nat))) [o8 n1]=.ok [.lst (b_ A),.lst (b_ B)] [o8 n3]:=by
 have sd:((d+1:Nat):Int) - 1=(d:Int):=by omega
 have pr:aI [av sc ls u,.int d]=true:=by simp[aI,PV.pure,gK,ce]
 have cA:=ib (t:=[]) (bQ cs) pr eA (dX wA);have cB:=ib (t:=[]) (bQ cs) pr eB (dX wB);have d0:∀n,ay [o8 n] (.ref 0)=.ref 0:=fun _=>rfl
 have s1:∀i:PV,bU (F k) (L k) [some i,some (cv cs),some (.ref 0),some (av sc ls u),some (.int ((d+1:Nat):Int))] [o8 n1]=.ok (.lst (b_ A)) [o8 n2]:=fun i=>by simp only[EV,bU,d0,sd,cA]
 have s2:∀i:PV,bU (F k) (L k) [some i,some (cv cs),some (.ref 0),some (av sc ls u),some (.int ((d+1:Nat):Int))] [o8 n2]=.ok (.lst (b_ B)) [o8 n3]:=fun i=>by simp only[EV,bU,d0,sd,cB]
 show be bX (bU (F k) (L k)) _ [PV.int (0+((0:Nat):Int)),PV.int (0+((1:Nat):Int))] [o8 n1]=_;simp only[be,bX,Res.G4,if_true,s1,s2]
theorem rC(k:Nat)(n m:Int)(A B:j9)(wA:u9 A=true)(wB:u9 B=true)(lA:(b_ A).length≤1000)(lB:(b_ B).length≤1000):
  be bX (bT (F (k+1))) [some (.ref 1),some (.int m)] ((List.range (Int.toNat 2)).map fun i=>PV.int (0+(i:Nat))) (hp n [] [.lst (b_ A),.lst (b_ B)])=.ok [.lst (b_ (.cons (.text (J6 m) []) A)),.lst (b_ (.cons (.text (J6 (m+1)) []) B))] (hp n [] [.lst (b_ A),.lst (b_ B)]):=by
 have RD:decide ((0:Int)<95)=true:=by decide
 have mk:=iG k;have sl:=xO;have i0:d7 (.ref 1) (.int 0) (hp n [] [.lst (b_ A),.lst (b_ B)])=.ok (.lst (b_ A)) (hp n [] [.lst (b_ A),.lst (b_ B)]):=qU n [] [.lst (b_ A),.lst (b_ B)] 0 rfl (dX wA);have i1:d7 (.ref 1) (.int 1) (hp n [] [.lst (b_ A),.lst (b_ B)])=.ok (.lst (b_ B)) (hp n [] [.lst (b_ A),.lst (b_ B)]):=qU n [] [.lst (b_ A),.lst (b_ B)] 1 rfl (dX wB);have dr:ay (hp n [] [.lst (b_ A),.lst (b_ B)]) (.ref 1)=.ref 1:=rfl;have a0:=jo (m+0);have a1:=jo (m+1);have z1:1+(b_ A).length≤16777216:=by omega
 have z2:1+(b_ B).length≤16777216:=by omega
 have m0:m+0=m:=by omega
 rw[b_,b_,nd,nd];generalize b_ A=xA at*;generalize b_ B=xB at*;generalize hp n [] [.lst xA,.lst xB]=hh at*
 have s1:bT (F (k+1)) [some (.int 0),some (.ref 1),some (.int m)] hh=.ok (.lst (.tup [.str tT,.str [J6 m]]::xA)) hh:=by simp only[EV,bT,ai,mk,RD,a0,sl,dr,i0,z1];rw[m0]
 have s2:bT (F (k+1)) [some (.int 1),some (.ref 1),some (.int m)] hh=.ok (.lst (.tup [.str tT,.str [J6 (m+1)]]::xB)) hh:=by simp only[EV,bT,ai,mk,RD,a1,sl,dr,i1,z2]
 show be bX (bT (F (k+1))) _ [PV.int 0,PV.int 1] hh=_;simp only[be,bX,Res.G4,if_true,s1,s2]
theorem nF{i j:Int}(h:i % 95≠j % 95):J6 i≠J6 j:=by
 have key:∀n:Nat,n<95→aF.idxOf (aF.getD n 0)=n:=by decide
 intro e;unfold J6 at e;have a0:=Int.emod_nonneg i (by decide:(95:Int)≠0);have a1:=Int.emod_lt_of_pos i (by decide:(0:Int)<95);have b0:=Int.emod_nonneg j (by decide:(95:Int)≠0);have b1:=Int.emod_lt_of_pos j (by decide:(0:Int)<95);have q1:=key (i % 95).toNat (by omega);have q2:=key (j % 95).toNat (by omega);rw[e,q2]at q1;omega
theorem zb{x c:Nat}(t:List Nat)(h:x≠c):((x::t).take 1).contains c=false:=by rw[List.take_succ_cons,List.take_zero,List.contains_cons,List.contains_nil,Bool.or_false,beq_eq_false_iff_ne];exact h.symm
theorem JG(v:Int){A B:j9}:Tg (.cons (.text (J6 (v % 95)) []) A) (.cons (.text (J6 (v % 95+1)) []) B) (J6 (v % 95+2))=true:=by have e1:J6 (v % 95)≠J6 (v % 95+2):=nF (by omega);have e2:J6 (v % 95+1)≠J6 (v % 95+2):=nF (by omega);have e3:J6 (v % 95)≠J6 (v % 95+1):=nF (by omega);simp only[Tg,RP,Qs,hdT,e1,e2,e3,ne_eq,Option.some.injEq,not_false_eq_true,decide_true,Bool.or_true,Bool.and_self,Bool.not_false]
theorem yK(k:Nat)(cs:List Int)(hc:cs.length≤32)(sc:List Si)(ls:List (List Nat))(u:Bool)(d z c:Nat)(hd:d≤25)(NA:∀m:Int,0≤m→m+(c:Int)≤1000000→Got u (L (k+1) .u_ [cv cs,.ref 0,av sc ls u,.int d] [o8 m]) m d 8 16 z c)(p:PV)(O4:dP p=true)(n:Int)(h0:0≤n)(h1:n+((1+2 * c:Nat):Int)≤1000000):
  Got u (L (k+2) .A_ [cv cs,.ref 0,av sc ls u,p,.int ((d+1:Nat):Int)] [o8 n]) n (d+1) 2 4 (2 * z+3) (1+2 * c):=by
 obtain⟨v,v0,_,ev⟩:=lO k cs hc n h0 (by omega);obtain⟨A,n1,eA,fA,lA,a1,a2⟩:=NA (n+1) (by omega) (by omega);obtain⟨B,n2,eB,fB,lB,b1,b2⟩:=NA n1 (by omega) (by omega);have cm:=rB (k+1) cs sc ls u d (n+1) n1 n2 A B fA.w fB.w eA eB;have RD:decide ((0:Int)<95)=true:=by decide
 have e5:aC 5 (bp (L (k+1) .D_) aaB) [some (cv cs),some (.ref 0),some (av sc ls u),some p,some (.int ((d+1:Nat):Int)),none,none,none,none] [o8 n]=.nx [some (cv cs),some (.ref 0),some (av sc ls u),some p,some (.int ((d+1:Nat):Int)),some (.int v),none,none,none] [o8 (n+1)]:=bj (ib (t:=[]) (bQ cs) rfl ev rfl);have e6:aC 6 (c2 aU (ae 5) aaG) [some (cv cs),some (.ref 0),some (av sc ls u),some p,some (.int ((d+1:Nat):Int)),some (.int v),none,none,none] [o8 (n+1)]=.nx [some (cv cs),some (.ref 0),some (av sc ls u),some p,some (.int ((d+1:Nat):Int)),some (.int v),some (.int (v % 95)),none,none] [o8 (n+1)]:=bj (by simp only[EV,RD]);have b2':Rv 4611686018427387904 2=true:=rfl;have ln:((List.range (Int.toNat 2)).map fun i=>PV.int (0+(i:Nat))).length<16777216:=by decide
 have cp:∀(x5 x6 x7 x8:Option PV),dL [0,1,2,4] [some (cv cs),some (.ref 0),some (av sc ls u),some p,some (.int ((d+1:Nat):Int)),x5,x6,x7,x8]=[some (cv cs),some (.ref 0),some (av sc ls u),some (.int ((d+1:Nat):Int))]:=fun _ _ _ _=>rfl
 have e7:aC 7 (cN lg (bG [0,1,2,4] (bD (aa aag ag)) bX (bU (F (k+1)) (L (k+1))))) [some (cv cs),some (.ref 0),some (av sc ls u),some p,some (.int ((d+1:Nat):Int)),some (.int v),some (.int (v % 95)),none,none] [o8 (n+1)]=.nx [some (cv cs),some (.ref 0),some (av sc ls u),some p,some (.int ((d+1:Nat):Int)),some (.int v),some (.int (v % 95)),some (.ref 1),none] (hp n2 [] [.lst (b_ A),.lst (b_ B)]):=bj (by
  have q:(cN lg (bG [0,1,2,4] (bD (aa aag ag)) bX (bU (F (k+1)) (L (k+1))))) [some (cv cs),some (.ref 0),some (av sc ls u),some p,some (.int ((d+1:Nat):Int)),some (.int v),some (.int (v % 95)),none,none] [o8 (n+1)]=lg [.lst (b_ A),.lst (b_ B)] [o8 n2]:=by simp only[Br,oz,mn,rc,vy,Hq,Res.G4,b2',if_true,szl,ln,cp,cm]
  exact q.trans rfl)
 have fin:∀(js:List PO)(X Y:j9),Fw u X d 9 17 (z+1)→Fw u Y d 9 17 (z+1)→(u=true→∃a b,hdT X=some a∧hdT Y=some b∧Tg X Y (J6 (v % 95+2))=true)→v9 (ci abp) (aC 7 (cN lg (bG [7,6] (bD (aa aag ag)) bX (bT (F (k+1)))))) aW [some (cv cs),some (.ref 0),some (av sc ls u),some p,some (.int ((d+1:Nat):Int)),some (.int v),some (.int (v % 95)),some (.ref 1),none] (hp n2 [] [.lst (b_ A),.lst (b_ B)])=.nx [some (cv cs),some (.ref 0),some (av sc ls u),some p,some (.int ((d+1:Nat):Int)),some (.int v),some (.int (v % 95)),some (.ref (js.length+1)),none] (hp n2 js [.lst (b_ X),.lst (b_ Y)])→Got u (L (k+2) .A_ [cv cs,.ref 0,av sc ls u,p,.int ((d+1:Nat):Int)] [o8 n]) n (d+1) 2 4 (2 * z+3) (1+2 * c):=fun js X Y fX fY hXY e7b=>by
  obtain⟨X',Y',fX',fY',hc9,e9⟩:=vD n2 v js X Y fX fY (some (cv cs)) (some (.ref 0)) (some (av sc ls u)) (some p) (some (.int ((d+1:Nat):Int))) (some (.int (v % 95))) none;obtain⟨ns,fw,l1,VG⟩:=vC k u n2 v (v % 95) js X' Y' hd fX' fY' p O4 (.lst (sc.map it)) (.lst (ls.map PV.str)) (fun q=>by obtain⟨a,b,x1,x2,x3⟩:=hXY q;exact hc9 _ a b x1 x2 x3) (some (cv cs)) (some (.ref 0)) (some (.int ((d+1:Nat):Int))) none;refine⟨ns,n2,?_,fw.mono (Nat.le_refl _) (Nat.le_refl _) (Nat.le_refl _) (by omega),l1,by omega,by omega⟩
  have bd:ei (F (k+1)) (L (k+1)) [some (cv cs),some (.ref 0),some (av sc ls u),some p,some (.int ((d+1:Nat):Int)),none,none,none,none] [o8 n]=.rt (.lst (b_ ns)) (hp n2 js [.lst (b_ X'),.lst (b_ Y')]):=by unfold ei;rw[aD e5,aD e6,aD e7,aD e7b,aD e9];exact VG
  show hJ (ei (F (k+1)) (L (k+1))) 5 9 [cv cs,.ref 0,av sc ls u,p,.int ((d+1:Nat):Int)] [o8 n]=_;exact kR (f:=ei (F (k+1)) (L (k+1))) (np:=5) (n:=9) rfl bd (vw n2 _ (dX fw.w))
 have at2:m_ [PV.lst (sc.map it),.lst (ls.map PV.str),.bl u] 2=some (.bl u):=rfl
 cases u with
 |false=>refine fin [] A B (fA.mono (Nat.le_refl _) (by decide) (by decide) (by omega)) (fB.mono (Nat.le_refl _) (by decide) (by decide) (by omega)) (fun q=>by cases q) ?_;simp only[EV,at2]
 |true=>
  have nA:=fA.n;have nB:=fB.n;have ah:=rC k n2 (v % 95) A B fA.w fB.w (by omega) (by omega)
  have g:∀(i:Int)(X:j9),Fw true X d 8 16 z→Fw true (.cons (.text (J6 i) []) X) d 9 17 (z+1):=fun i X f=>by
   have:=((Fw.sg i).ap f).mono (d':=d) (a':=9) (t':=17) (z':=z+1) (by omega) (by omega) (by omega) (by omega)
   rwa [apN,eX]at this
  refine fin [.lst [.lst (b_ A),.lst (b_ B)]] (.cons (.text (J6 (v % 95)) []) A) (.cons (.text (J6 (v % 95+1)) []) B) (g _ A fA) (g _ B fB) (fun _=>⟨_,_,rfl,rfl,JG v⟩) ?_
  have t:∀g:Sx,v9 (ci abp) g aW [some (cv cs),some (.ref 0),some (av sc ls true),some p,some (.int ((d+1:Nat):Int)),some (.int v),some (.int (v % 95)),some (.ref 1),none] (hp n2 [] [.lst (b_ A),.lst (b_ B)])=g [some (cv cs),some (.ref 0),some (av sc ls true),some p,some (.int ((d+1:Nat):Int)),some (.int v),some (.int (v % 95)),some (.ref 1),none] (hp n2 [] [.lst (b_ A),.lst (b_ B)]):=fun g=>by simp only[EV,at2]
  rw[t];have cp2:∀(x0 x1 x2 x3 x4 x5 x8:Option PV),dL [7,6] [x0,x1,x2,x3,x4,x5,some (PV.int (v % 95)),some (.ref 1),x8]=[some (.ref 1),some (.int (v % 95))]:=fun _ _ _ _ _ _ _=>rfl;refine bj ?_
  have q:∀ ρ:Ev,dL [7,6] ρ=[some (.ref 1),some (.int (v % 95))]→(cN lg (bG [7,6] (bD (aa aag ag)) bX (bT (F (k+1))))) ρ (hp n2 [] [.lst (b_ A),.lst (b_ B)])=lg [.lst (b_ (.cons (.text (J6 (v % 95)) []) A)),.lst (b_ (.cons (.text (J6 (v % 95+1)) []) B))] (hp n2 [] [.lst (b_ A),.lst (b_ B)]):=fun ρ cq=>by simp only[Br,oz,mn,rc,vy,Hq,Res.G4,b2',if_true,szl,ln,cq,ah]
  exact(q _ (cp2 _ _ _ _ _ _ _)).trans rfl
noncomputable def Ql(nm:List Nat)(sc:List Si):List Si:=sc.filter fun x=>!decide (x.1=nm)
theorem Bm(nm:List Nat)(x:Si)(r:List Si):Ql nm (x::r)=if x.1=nm then Ql nm r else x::Ql nm r:=by
 unfold Ql;rw[List.filter_cons]
 by_cases z:x.1=nm<;>simp[z]
theorem tj(k:Nat)(nm:List Nat)(hn:J_ nm=true)(h:List L3.PO):∀sc:List Si,(∀x∈sc,ki x)→be (cJ (F k)) (cL (F k)) [some (.str nm)] (sc.map it) h=.ok ((Ql nm sc).map it) h
 |[],_=>rfl
 |x::r,hk=>by
  have q:=tj k nm hn h r fun y hy=>hk y (List.mem_cons_of_mem _ hy);have a0:∀(a b:PV),m_ [a,b] 0=some a:=fun _ _=>rfl;have a1:∀(a:PV)(l:List PV),m_ (a::l) 0=some a:=fun _ _=>cU (by decide) rfl;have ne:=qO x.1 nm h (mh (hk x (List.mem_cons_self ..)).1) (mh hn);rw[List.map_cons,Bm]
  by_cases z:x.1=nm
  ·rw[decide_eq_true z]at ne;rw[if_pos z]
   have e:be (cJ (F k)) (cL (F k)) [some (.str nm)] (it x::r.map it) h=be (cJ (F k)) (cL (F k)) [some (.str nm)] (r.map it) h:=by rw[be];simp only[EV,cJ,cL,it,a1,ne]
   rw[e,q]
  ·rw[decide_eq_false z]at ne;rw[if_neg z,List.map_cons]
   have e:be (cJ (F k)) (cL (F k)) [some (.str nm)] (it x::r.map it) h=(be (cJ (F k)) (cL (F k)) [some (.str nm)] (r.map it) h).bind fun vs h3=>.ok (it x::vs) h3:=by rw[be];simp only[EV,cJ,cL,it,a1,ne]
   rw[e,q];rfl
theorem DT{nm:List Nat}{sc:List Si}(h:∀x∈sc,ki x):∀x∈Ql nm sc,ki x:=fun x hx=>h x (List.mem_filter.mp hx).1
theorem DU(nm:List Nat)(sc:List Si):(Ql nm sc).length≤sc.length:=List.length_filter_le _ _
theorem Jm(n:Int)(js:List PO)(xs:List PV)(h:aI xs=true):U_ (.ref (js.length+1)) (hp n js xs)=.ok (.lst xs) (o8 n::(js++ [PO.o9 (.lst xs)])):=by
 have f:cC (hp n js xs) (.ref (js.length+1))=some (.lst xs,(hp n js xs).set (js.length+1) (.o9 (.lst xs))):=by unfold cC;simp only[kA,h,if_true]
 have a:cG (hp n js xs) (.ref (js.length+1))=none:=by unfold cG;simp only[kA]
 have e:(hp n js xs).set (js.length+1) (.o9 (.lst xs))=o8 n::(js++ [PO.lst xs]).set js.length (.o9 (.lst xs)):=rfl;unfold U_ XH;simp only[a,f];rw[e,jp]
theorem uX(k:Nat)(n:Int)(sc:List Si)(hs:sc.length≤1000)(hok:∀x∈sc,ki x)(ls:List (List Nat))(Q0:ls.length=12)(ho:∀l∈ls,J_ l=true)(nm:List Nat)(hn:J_ nm=true)(c:Nat)(hc:c=108∨c=109)(x0 x1 x2 x3 x5 x6 x7 x9 Wg UJ Ub Tp Sq:Option PV):∃(js:List PO)(P0:List Si),(∀x∈P0,ki x)∧P0.length≤sc.length+5∧
  v9 (aB (c2 m9 (ae 4) (cK (.str [108])))) (aC 11 (c2 gm (c2 aT (ae 11) (aA (F (k+1) .Nx) (aa (cN au abA) abE))) (cN bx (aa (cN au (aa (cN au (aa (ae 10) (aa (c2 d7 (ae 8) aaQ) ag))) abI)) ag)))) (bY (cM cz ba (ae 11) (aa (cN au (aa (cN au abA) (aa (cK (.str [119])) ag))) ag))) [x0,x1,x2,x3,some (.str [c]),x5,x6,x7,some (.lst (ls.map PV.str)),x9,some (.str nm),some (.ref 1),Wg,UJ,Ub,Tp,Sq] (hp n [] ((Ql nm sc).map it))=.nx [x0,x1,x2,x3,some (.str [c]),x5,x6,x7,some (.lst (ls.map PV.str)),x9,some (.str nm),some (.ref (js.length+1)),Wg,UJ,Ub,Tp,Sq] (hp n js (P0.map it)):=by
 have fl:=DU nm sc;have fm:=DT (nm:=nm) hok;rcases hc with rfl|rfl
 ·have eb:∀h,m9 (.str [108]) (.str [108]) h=.ok (.bl true) h:=fun h=>by kernel_rfl
  have r1:=ut k [nm] ls Q0 (by simp);rw[List.map_cons,List.map_nil]at r1;have zl:=fun h=>fQ h (ce ls);have z1:∀h,cC h (.tup [.str nm])=some (.tup [.str nm],h):=fun h=>jX h rfl;have n7:m_ (ls.map PV.str) 7=some (.str (ls.getD 7 [])):=nU 7 (by omega);have dr:ay (hp n [] ((Ql nm sc).map it)) (.ref 1)=.ref 1:=rfl;refine⟨[.lst ((Ql nm sc).map it)],Ql nm sc++((List.range 4).map fun j=>hU [nm] ls j)++[(nm,[ls.getD 7 []],109)],fun x hx=>?_,by simp;omega,?_⟩
  ·rcases List.mem_append.mp hx with q|q
   ·rcases List.mem_append.mp q with q|q
    ·exact fm x q
    ·obtain⟨j,hj,rfl⟩:=List.mem_map.mp q;exact qJ (fun l hl=>by rw[List.mem_singleton.mp hl];exact hn) ho j (List.mem_range.mp hj)
   ·rw[List.mem_singleton.mp q];exact⟨hn,fun l hl=>by rw[List.mem_singleton.mp hl];exact gt ho 7,(by decide:109∈knd)⟩
  ·have em:(Ql nm sc++((List.range 4).map fun j=>hU [nm] ls j)++[(nm,[ls.getD 7 []],109)]).map it=(Ql nm sc).map it++((List.range 4).map fun j=>it (hU [nm] ls j))++[.tup [.tup [.str nm,.str (ls.getD 7 [])],.str [109]]]:=by simp only[List.map_append,List.map_map];rfl
   rw[em];have l1:((Ql nm sc).map it).length≤1000:=by rw[List.length_map];omega
   have l2:((List.range 4).map fun j=>it (hU [nm] ls j)).length=4:=by simp
   generalize(Ql nm sc).map it=X at*;generalize((List.range 4).map fun j=>it (hU [nm] ls j))=R at*
   have ad:aT (.ref 1) (.lst R) (hp n [] X)=.ok (.lst (X++R)) (hp n [] X):=by have e1:RJ (hp n [] X) (.ref 1)=some X:=rfl;have e2:RJ (hp n [] X) (.lst R)=some R:=rfl;unfold aT;simp only[e1,e2];rw[if_pos (by rw[szl];omega)]
   have am:∀p,gm (.lst (X++R)) (.lst [p]) (hp n [] X)=.ok (.ref 2) (hp n [.lst X] (X++R++ [p])):=fun p=>by have e1:RJ (hp n [] X) (.lst (X++R))=some (X++R):=rfl;have e2:RJ (hp n [] X) (.lst [p])=some [p]:=rfl;unfold gm;simp only[e1,e2];rw[if_pos (by rw[szl,List.length_append,List.length_singleton];omega)];rfl
   have W8:(c2 gm (c2 aT (ae 11) (aA (F (k+1) .Nx) (aa (cN au abA) abE))) (cN bx (aa (cN au (aa (cN au (aa (ae 10) (aa (c2 d7 (ae 8) aaQ) ag))) abI)) ag))) [x0,x1,x2,x3,some (.str [108]),x5,x6,x7,some (.lst (ls.map PV.str)),x9,some (.str nm),some (.ref 1),Wg,UJ,Ub,Tp,Sq] (hp n [] X)=.ok (.ref 2) (hp n [.lst X] (X++R++ [.tup [.tup [.str nm,.str (ls.getD 7 [])],.str [109]]])):=by generalize hH:hp n [.lst X] (X++R++ [.tup [.tup [.str nm,.str (ls.getD 7 [])],.str [109]]])=H;have am':=am (.tup [.tup [.str nm,.str (ls.getD 7 [])],.str [109]]);rw[hH]at am';generalize hp n [] X=h0 at*;simp only[EV,dr,ai,zl,z1,r1,n7,ad,am']
   have tb:∀g1 g2:Sx,v9 (aB (c2 m9 (ae 4) (cK (.str [108])))) g1 g2 [x0,x1,x2,x3,some (.str [108]),x5,x6,x7,some (.lst (ls.map PV.str)),x9,some (.str nm),some (.ref 1),Wg,UJ,Ub,Tp,Sq] (hp n [] X)=g1 [x0,x1,x2,x3,some (.str [108]),x5,x6,x7,some (.lst (ls.map PV.str)),x9,some (.str nm),some (.ref 1),Wg,UJ,Ub,Tp,Sq] (hp n [] X):=fun g1 g2=>by simp only[EV,eb]
   rw[tb];exact bj W8
 ·have eb:∀h,m9 (.str [109]) (.str [108]) h=.ok (.bl false) h:=fun h=>by kernel_rfl
  have dr:ay (hp n [] ((Ql nm sc).map it)) (.ref 1)=.ref 1:=rfl;have li:cz (hp n [] ((Ql nm sc).map it)) (.ref 1)=true:=rfl;have ap:∀p,ba (.ref 1) [p] (hp n [] ((Ql nm sc).map it))=.ok .non (hp n [] ((Ql nm sc).map it++ [p])):=fun p=>Be n [] ((Ql nm sc).map it) p (by rw[List.length_map];omega);refine⟨[],Ql nm sc++ [(nm,[],119)],fun x hx=>?_,by simp;omega,?_⟩
  ·rcases List.mem_append.mp hx with q|q
   ·exact fm x q
   ·rw[List.mem_singleton.mp q];exact⟨hn,by simp,(by decide:119∈knd)⟩
  ·have em:(Ql nm sc++ [(nm,[],119)]).map it=(Ql nm sc).map it++ [.tup [.tup [.str nm],.str [119]]]:=by rw[List.map_append];rfl
   rw[em];have ap':=ap (.tup [.tup [.str nm],.str [119]]);generalize hH:hp n [] ((Ql nm sc).map it++ [.tup [.tup [.str nm],.str [119]]])=H at*;generalize hp n [] ((Ql nm sc).map it)=h0 at*;simp only[EV,eb,dr,li,ap']
theorem AT(k:Nat)(u:Bool)(v:Int)(A:j9){d z:Nat}(hd:d≤25)(fA:Fw u A d 8 16 z)(p:PV)(O4:dP p=true)(nm:List Nat)(hn:J_ nm=true)(h:List L3.PO)(x0 x1 x2 x4 x5 x7 x8 PJ UJ Ub Tp Sq:Option PV):∃ns,Fw u ns (d+1) 2 4 (z+5)∧1≤(b_ ns).length∧
  (ak (aC 13 (c2 d7 (aA (F (k+1) .j_) ag) (c2 aU abu aaG))) (ak (aC 14 (c2 aT aad (c2 aU (c2 bA (ae 6) (cK (.int 1140))) abf))) (ak (aC 15 (c2 d7 (aA (F (k+1) .j_) ag) (c2 aU (c2 aT (c2 aT abu aad) (c2 aU (ae 14) abf)) aaG))) (ak (v9 (ci (ae 9)) (aC 12 (c2 aT (cN bx (aa (cN au (aa aae (aa (ae 13) ag))) ag)) (ae 12))) aW) (ak (aC 16 (cN au (aa aau (aa (ae 10) (aa (ae 3) (aa (aA (F (k+1) .K4) (aa (ae 12) ag)) (aa (c2 d7 (cN bx (aa aai (aa (c2 aT (ae 13) (cK (.str [44,32]))) (aa (c2 aT (ae 15) (ae 13)) (aa (ae 15) ag))))) (c2 aU abt aaF)) ag))))))) (ak (v9 (di (eP (ci (ae 9))) (aB (c2 m9 (c2 aU (c2 bA (ae 6) aaK) aag) aad))) (aP (cN bx (aa (ae 16) ag))) aW) (aP (cN bx (aa (ae 16) (aa (cN au (aa aae (aa (c2 d7 (aA (F (k+1) .j_) ag) (c2 aU (c2 aT abu (ae 14)) aaG)) ag))) ag)))))))))) [x0,x1,x2,some p,x4,x5,some (.int v),x7,x8,some (.bl u),some (.str nm),PJ,some (.lst (b_ A)),UJ,Ub,Tp,Sq] h=.rt (.lst (b_ ns)) h:=by
 have RD:decide ((0:Int)<95)=true:=by decide
 have Xu:decide ((0:Int)<94)=true:=by decide
 have Uc:decide ((0:Int)<12∧(12:Int)<1073741824)=true:=by decide
 have Wt:decide ((0:Int)<1140∧(1140:Int)<1073741824)=true:=by decide
 have p5:decide ((0:Int)<5∧(5:Int)<1073741824)=true:=by decide
 have p7:decide ((0:Int)<7∧(7:Int)<1073741824)=true:=by decide
 have p2:decide ((0:Int)<2)=true:=by decide
 have p4:decide ((0:Int)<4)=true:=by decide
 have mk:=iG k;have sl:=xO;have s1:=jo (v / 12);have s2:=jo (v / 12+1+(1+v / 1140 % 94) % 94);have s3:=jo (v / 12+(1+v / 1140 % 94));have e13:aC 13 (c2 d7 (aA (F (k+1) .j_) ag) (c2 aU abu aaG)) [x0,x1,x2,some p,x4,x5,some (.int v),x7,x8,some (.bl u),some (.str nm),PJ,some (.lst (b_ A)),UJ,Ub,Tp,Sq] h=.nx [x0,x1,x2,some p,x4,x5,some (.int v),x7,x8,some (.bl u),some (.str nm),PJ,some (.lst (b_ A)),some (.str [J6 (v / 12)]),Ub,Tp,Sq] h:=bj (by simp only[EV,ai,mk,RD,Uc,s1,sl]);have e14:aC 14 (c2 aT aad (c2 aU (c2 bA (ae 6) (cK (.int 1140))) abf)) [x0,x1,x2,some p,x4,x5,some (.int v),x7,x8,some (.bl u),some (.str nm),PJ,some (.lst (b_ A)),some (.str [J6 (v / 12)]),Ub,Tp,Sq] h=.nx [x0,x1,x2,some p,x4,x5,some (.int v),x7,x8,some (.bl u),some (.str nm),PJ,some (.lst (b_ A)),some (.str [J6 (v / 12)]),some (.int (1+v / 1140 % 94)),Tp,Sq] h:=bj (by simp only[EV,Xu,Wt]);have e15:aC 15 (c2 d7 (aA (F (k+1) .j_) ag) (c2 aU (c2 aT (c2 aT abu aad) (c2 aU (ae 14) abf)) aaG)) [x0,x1,x2,some p,x4,x5,some (.int v),x7,x8,some (.bl u),some (.str nm),PJ,some (.lst (b_ A)),some (.str [J6 (v / 12)]),some (.int (1+v / 1140 % 94)),Tp,Sq] h=.nx [x0,x1,x2,some p,x4,x5,some (.int v),x7,x8,some (.bl u),some (.str nm),PJ,some (.lst (b_ A)),some (.str [J6 (v / 12)]),some (.int (1+v / 1140 % 94)),some (.str [J6 (v / 12+1+(1+v / 1140 % 94) % 94)]),Sq] h:=bj (by simp only[EV,ai,mk,RD,Xu,Uc,s2,sl]);rw[aD e13,aD e14,aD e15]
 obtain⟨A1,f1,h1,Zc⟩:∃A1,Fw u A1 d 9 17 (z+1)∧(u=true→hdT A1=some (J6 (v / 12)))∧(v9 (ci (ae 9)) (aC 12 (c2 aT (cN bx (aa (cN au (aa aae (aa (ae 13) ag))) ag)) (ae 12))) aW) [x0,x1,x2,some p,x4,x5,some (.int v),x7,x8,some (.bl u),some (.str nm),PJ,some (.lst (b_ A)),some (.str [J6 (v / 12)]),some (.int (1+v / 1140 % 94)),some (.str [J6 (v / 12+1+(1+v / 1140 % 94) % 94)]),Sq] h=.nx [x0,x1,x2,some p,x4,x5,some (.int v),x7,x8,some (.bl u),some (.str nm),PJ,some (.lst (b_ A1)),some (.str [J6 (v / 12)]),some (.int (1+v / 1140 % 94)),some (.str [J6 (v / 12+1+(1+v / 1140 % 94) % 94)]),Sq] h:=by
  cases u with
  |false=>exact⟨A,fA.mono (Nat.le_refl _) (by decide) (by decide) (by omega),fun q=>(by cases q),by simp only[EV,if_true]⟩
  |true=>
   have fn:=fA.n;have ll:1+(b_ A).length≤16777216:=by omega
   refine⟨.cons (.text (J6 (v / 12)) []) A,?_,fun _=>rfl,?_⟩
   ·have:=((Fw.sg (v / 12)).ap fA).mono (d':=d) (a':=9) (t':=17) (z':=z+1) (by omega) (by omega) (by omega) (by omega)
    rwa [apN,eX]at this
   ·rw[b_,nd];simp only[EV,ll]
 rw[aD Zc];obtain⟨A2,eo,f2,_,h2,_⟩:=nR k A1 f1 hd (by decide) (by decide);have zA:=fun h=>fQ h (aQ A1 f1.w);have dp:∀h,ay h p=p:=fun h=>bB h (fS O4);have en1:J6 (v / 12)≠J6 (v / 12+(1+v / 1140 % 94)):=nF (by omega);have en2:J6 (v / 12+1+(1+v / 1140 % 94) % 94)≠J6 (v / 12+(1+v / 1140 % 94)):=nF (by omega)
 obtain⟨b,hb,bl,bc,ab⟩:∃b,J_ b=true∧b.length≤3∧(b.take 1).contains (J6 (v / 12+(1+v / 1140 % 94)))=false∧m_ [PV.str [],.str ([J6 (v / 12)]++[44,32]),.str ([J6 (v / 12+1+(1+v / 1140 % 94) % 94)]++[J6 (v / 12)]),.str [J6 (v / 12+1+(1+v / 1140 % 94) % 94)]] (v / 7 % 4)=some (.str b):=by
  rcases nZ (v / 7)with q|q|q|q<;>rw[q]
  ·exact⟨_,rfl,by decide,rfl,rfl⟩
  ·exact⟨_,gn (pD _) (by decide),by simp,zb _ en1,rfl⟩
  ·exact⟨_,gn (pD _) (pD _),by simp,zb _ en2,rfl⟩
  ·exact⟨_,pD _,by simp,zb _ en2,rfl⟩
 simp only[List.cons_append,List.nil_append]at ab;have e16:aC 16 (cN au (aa aau (aa (ae 10) (aa (ae 3) (aa (aA (F (k+1) .K4) (aa (ae 12) ag)) (aa (c2 d7 (cN bx (aa aai (aa (c2 aT (ae 13) (cK (.str [44,32]))) (aa (c2 aT (ae 15) (ae 13)) (aa (ae 15) ag))))) (c2 aU abt aaF)) ag)))))) [x0,x1,x2,some p,x4,x5,some (.int v),x7,x8,some (.bl u),some (.str nm),PJ,some (.lst (b_ A1)),some (.str [J6 (v / 12)]),some (.int (1+v / 1140 % 94)),some (.str [J6 (v / 12+1+(1+v / 1140 % 94) % 94)]),Sq] h=.nx [x0,x1,x2,some p,x4,x5,some (.int v),x7,x8,some (.bl u),some (.str nm),PJ,some (.lst (b_ A1)),some (.str [J6 (v / 12)]),some (.int (1+v / 1140 % 94)),some (.str [J6 (v / 12+1+(1+v / 1140 % 94) % 94)]),some (.tup [.str tL,.str nm,p,.tup (b_ A2),.str b])] h:=bj (by simp only[EV,dp,ai,zA,eo,p7,p4,ab]);rw[aD e16];have hq:dQ nm p=true:=by unfold dQ;rw[hn,O4];rfl
 have fw:=Dx hq hb bl f2;have n1:b_ (.cons (.loop nm p A2 b) .nil)=[.tup [.str tL,.str nm,p,.tup (b_ A2),.str b]]:=by rw[b_,nd,b_]
 have n2:b_ (apN (.cons (.loop nm p A2 b) .nil) (.cons (.text (J6 (v / 12+(1+v / 1140 % 94))) []) .nil))=[.tup [.str tL,.str nm,p,.tup (b_ A2),.str b],.tup [.str tT,.str [J6 (v / 12+(1+v / 1140 % 94))]]]:=by rw[fG,n1,b_,nd,b_];rfl
 have td:u=true→Om (apN (.cons (.loop nm p A2 b) .nil) (.cons (.text (J6 (v / 12+(1+v / 1140 % 94))) []) .nil))=true:=fun q=>by have tA:=f2.c q;have hh:=h2.trans (h1 q);simp only[apN,Om,Ry,wU,hh,bc,tA,en1,ne_eq,not_false_eq_true,decide_true];rfl
 have g2:=((fw.ap (Fw.sg (v / 12+(1+v / 1140 % 94)))).up td).mono (d':=d+1) (a':=2) (t':=4) (z':=z+5) (by omega) (by omega) (by omega) (by omega);have g1:=fw.mono (d':=d+1) (a':=2) (t':=4) (z':=z+5) (by omega) (by omega) (by omega) (by omega);have dN:∀h,ay h (PV.tup [.str tL,.str nm,p,.tup (b_ A2),.str b])=.tup [.str tL,.str nm,p,.tup (b_ A2),.str b]:=fun _=>rfl;generalize PV.tup [.str tL,.str nm,p,.tup (b_ A2),.str b]=N at n1 n2 dN ⊢
 cases u with
 |true=>refine⟨_,g2,by rw[n2];simp,?_⟩;rw[n2];simp only[EV,dN,ai,mk,Uc,RD,s3,sl]
 |false=>
  by_cases q:v / 5 % 2=1
  ·refine⟨_,g1,by rw[n1];simp,?_⟩;rw[n1];simp only[EV,dN,cP,p5,p2,q,decide_true]
  ·refine⟨_,g2,by rw[n2];simp,?_⟩;rw[n2];simp only[EV,dN,cP,p5,p2,q,decide_false,ai,mk,Uc,RD,s3,sl]
theorem Dy(k:Nat)(cs:List Int)(hc:cs.length≤32)(sc:List Si)(hs:sc.length+5≤1000)(hok:∀x∈sc,ki x)(ls:List (List Nat))(Q0:ls.length=12)(ho:∀l∈ls,J_ l=true)(u:Bool)(d z c:Nat)(hd:d≤25)
  (NA:∀P0:List Si,(∀x∈P0,ki x)→P0.length≤sc.length+5→∀m:Int,0≤m→m+(c:Int)≤1000000→Got u (L (k+1) .u_ [cv cs,.ref 0,av P0 ls u,.int d] [o8 m]) m d 8 16 z c)
  (p:PV) (O4:dP p=true) (q:Nat) (hq:q=108∨q=109) (n:Int) (h0:0≤n) (h1:n+((1+c:Nat):Int)≤1000000):
  Got u (L (k+2) .K5 [cv cs,.ref 0,av sc ls u,p,.str [q],.int ((d+1:Nat):Int)] [o8 n]) n (d+1) 2 4 (z+5) (1+c):=by
 obtain⟨v,v0,_,ev⟩:=lO k cs hc n h0 (by omega);have m0:=Int.emod_nonneg v (by decide:(12:Int)≠0);have m1:=Int.emod_lt_of_pos v (by decide:(0:Int)<12)
 obtain⟨nm,hn,an⟩:∃nm,J_ nm=true∧m_ (ls.map PV.str) (v % 12)=some (.str nm):=by
  refine⟨ls.getD (v % 12).toNat [],gt ho _,?_⟩;have e:v % 12=(((v % 12).toNat:Nat):Int):=by omega
  rw[e,Int.toNat_natCast];exact nU _ (by omega)
 obtain⟨js,P0,U6,l2,es⟩:=uX k (n+1) sc (by omega) hok ls Q0 ho nm hn q hq (some (cv cs)) (some (.ref 0)) (some (av sc ls u)) (some p) (some (.int ((d+1:Nat):Int))) (some (.int v)) (some (.lst (sc.map it))) (some (.bl u)) none none none none none;obtain⟨A,n1,eA,fA,lA,a1,a2⟩:=NA P0 U6 l2 (n+1) (by omega) (by omega);obtain⟨ns,fw,f1,ee⟩:=AT k u v A hd fA p O4 nm hn (o8 n1::(js++ [PO.o9 (.lst (P0.map it))])) (some (cv cs)) (some (.ref 0)) (some (av sc ls u)) (some (.str [q])) (some (.int ((d+1:Nat):Int))) (some (.lst (sc.map it))) (some (.lst (ls.map PV.str))) (some (.ref (js.length+1))) none none none none;refine⟨ns,n1,?_,fw,f1,by omega,by omega⟩;have Uc:decide ((0:Int)<12)=true:=by decide
 have e6:aC 6 (bp (L (k+1) .D_) aaB) [some (cv cs),some (.ref 0),some (av sc ls u),some p,some (.str [q]),some (.int ((d+1:Nat):Int)),none,none,none,none,none,none,none,none,none,none,none] [o8 n]=.nx [some (cv cs),some (.ref 0),some (av sc ls u),some p,some (.str [q]),some (.int ((d+1:Nat):Int)),some (.int v),none,none,none,none,none,none,none,none,none,none] [o8 (n+1)]:=bj (ib (t:=[]) (bQ cs) rfl ev rfl);have e7:(ko aa8 (ae 2)) [some (cv cs),some (.ref 0),some (av sc ls u),some p,some (.str [q]),some (.int ((d+1:Nat):Int)),some (.int v),none,none,none,none,none,none,none,none,none,none] [o8 (n+1)]=.nx [some (cv cs),some (.ref 0),some (av sc ls u),some p,some (.str [q]),some (.int ((d+1:Nat):Int)),some (.int v),some (.lst (sc.map it)),some (.lst (ls.map PV.str)),some (.bl u),none,none,none,none,none,none,none] [o8 (n+1)]:=rfl;have VG:aC 10 (c2 d7 (ae 8) (c2 aU (ae 6) aaL)) [some (cv cs),some (.ref 0),some (av sc ls u),some p,some (.str [q]),some (.int ((d+1:Nat):Int)),some (.int v),some (.lst (sc.map it)),some (.lst (ls.map PV.str)),some (.bl u),none,none,none,none,none,none,none] [o8 (n+1)]=.nx [some (cv cs),some (.ref 0),some (av sc ls u),some p,some (.str [q]),some (.int ((d+1:Nat):Int)),some (.int v),some (.lst (sc.map it)),some (.lst (ls.map PV.str)),some (.bl u),some (.str nm),none,none,none,none,none,none] [o8 (n+1)]:=bj (by simp only[EV,Uc,an])
 have W8:aC 11 (cN lg (bG [10] (eY (ae 7)) (cJ (F (k+1))) (cL (F (k+1))))) [some (cv cs),some (.ref 0),some (av sc ls u),some p,some (.str [q]),some (.int ((d+1:Nat):Int)),some (.int v),some (.lst (sc.map it)),some (.lst (ls.map PV.str)),some (.bl u),some (.str nm),none,none,none,none,none,none] [o8 (n+1)]=.nx [some (cv cs),some (.ref 0),some (av sc ls u),some p,some (.str [q]),some (.int ((d+1:Nat):Int)),some (.int v),some (.lst (sc.map it)),some (.lst (ls.map PV.str)),some (.bl u),some (.str nm),some (.ref 1),none,none,none,none,none] (hp (n+1) [] ((Ql nm sc).map it)):=bj (by
  have ln:(sc.map it).length<16777216:=by rw[List.length_map];omega
  have cm:=tj (k+1) nm hn [o8 (n+1)] sc hok
  have g:∀ ρ:Ev,dL [10] ρ=[some (.str nm)]→ae 7 ρ [o8 (n+1)]=.ok (.lst (sc.map it)) [o8 (n+1)]→(cN lg (bG [10] (eY (ae 7)) (cJ (F (k+1))) (cL (F (k+1))))) ρ [o8 (n+1)]=lg ((Ql nm sc).map it) [o8 (n+1)]:=fun ρ c1 c2=>by simp only[Br,oz,DW,c2,Res.G4,Ce,szl,ln,if_true,c1,cm]
  exact(g _ rfl rfl).trans rfl)
 have sd:((d+1:Nat):Int) - 1=(d:Int):=by omega
 have fz:=Jm (n+1) js (P0.map it) (gK P0);have dr:=mH (n+1) js (P0.map it);have pr:aI [av P0 ls u,.int d]=true:=by simp[aI,PV.pure,gK,ce]
 have ca:=ib (t:=js++ [PO.o9 (.lst (P0.map it))]) (bQ cs) pr eA (dX fA.w);have d0:ay (hp (n+1) js (P0.map it)) (.ref 0)=.ref 0:=rfl
 have Zc:aC 12 (bp (L (k+1) .u_) (aa (ae 0) (aa (ae 1) (aa (cN au (aa (Va (ae 11)) (aa (ae 8) (aa (ae 9) ag)))) (aa (c2 sK (ae 5) aad) ag))))) [some (cv cs),some (.ref 0),some (av sc ls u),some p,some (.str [q]),some (.int ((d+1:Nat):Int)),some (.int v),some (.lst (sc.map it)),some (.lst (ls.map PV.str)),some (.bl u),some (.str nm),some (.ref (js.length+1)),none,none,none,none,none] (hp (n+1) js (P0.map it))=.nx [some (cv cs),some (.ref 0),some (av sc ls u),some p,some (.str [q]),some (.int ((d+1:Nat):Int)),some (.int v),some (.lst (sc.map it)),some (.lst (ls.map PV.str)),some (.bl u),some (.str nm),some (.ref (js.length+1)),some (.lst (b_ A)),none,none,none,none] (o8 n1::(js++ [PO.o9 (.lst (P0.map it))])):=bj (by generalize hp (n+1) js (P0.map it)=h0 at*;generalize(o8 (n+1)::(js++ [PO.o9 (.lst (P0.map it))]))=h1 at*;simp only[EV,d0,dr,fz,sd,ca])
 have bd:gT (F (k+1)) (L (k+1)) [some (cv cs),some (.ref 0),some (av sc ls u),some p,some (.str [q]),some (.int ((d+1:Nat):Int)),none,none,none,none,none,none,none,none,none,none,none] [o8 n]=.rt (.lst (b_ ns)) (o8 n1::(js++ [PO.o9 (.lst (P0.map it))])):=by unfold gT;rw[aD e6,aD e7,aD VG,aD W8,aD es,aD Zc];exact ee
 show hJ (gT (F (k+1)) (L (k+1))) 6 17 [cv cs,.ref 0,av sc ls u,p,.str [q],.int ((d+1:Nat):Int)] [o8 n]=_;exact kR (f:=gT (F (k+1)) (L (k+1))) (np:=6) (n:=17) rfl bd (vw n1 _ (dX fw.w))
noncomputable def zT:Nat→Nat
 |0=>56
 |d+1=>4 * (2 * zT d+3)
noncomputable def cT:Nat→Nat
 |0=>5
 |d+1=>5+4 * (1+2 * cT d)
theorem Er:∀d,56≤zT d
 |0=>by rw[zT];decide
 |d+1=>by have:=Er d;rw[zT];omega
theorem Got.mono{u:Bool}{r:Res PV}{n:Int}{d a t z c z' c':Nat}(h:Got u r n d a t z c)(hz:z≤z')(hc:c≤c'):Got u r n d a t z' c':=by obtain⟨ns,n',e,fw,l,a1,a2⟩:=h;exact⟨ns,n',e,fw.mono (Nat.le_refl _) (Nat.le_refl _) (Nat.le_refl _) hz,l,a1,by omega⟩
theorem pR(cs:List Int)(hc:cs.length≤32)(ls:List (List Nat))(Q0:ls.length=12)(ho:∀l∈ls,J_ l=true)(u:Bool)(k:Nat):∀(d:Nat),d≤20→∀(sc:List Si),sc.length+5 * d≤40→(∀x∈sc,ki x)→∀n:Int,0≤n→n+(cT d:Int)≤1000000→Got u (L (k+5+2 * d) .u_ [cv cs,.ref 0,av sc ls u,.int d] [o8 n]) n d 8 16 (zT d) (cT d)
 |0,_,sc,hs,hok,n,h0,h1=>sR k cs hc sc (by omega) hok ls u 0 14 0 (by decide) (fun h=>absurd h (by decide)) n h0 h1
 |d+1,hd,sc,hs,hok,n,h0,h1=>by
  have z:=Er d
  have ih:∀P0:List Si,(∀x∈P0,ki x)→P0.length≤sc.length+5→∀m:Int,0≤m→m+(cT d:Int)≤1000000→Got u (L (k+4+2 * d+1) .u_ [cv cs,.ref 0,av P0 ls u,.int d] [o8 m]) m d 8 16 (zT d) (cT d):=fun P0 o2 l2 m m0 m1=>by
   have:=pR cs hc ls Q0 ho u k d (by omega) P0 (by omega) o2 m m0 m1
   rwa [show k+5+2 * d=k+4+2 * d+1 by omega]at this
  rw[show k+5+2 * (d+1)=(k+2+2 * d)+5 by omega];rw[cT]at h1;rw[zT,cT];refine sR (k+2+2 * d) cs hc sc (by omega) hok ls u (d+1) (2 * zT d+3) (1+2 * cT d) (by omega) (fun _ m m0 m1 p O4=>⟨?_,fun q hq=>?_⟩) n h0 h1
  ·rw[show k+2+2 * d+4=(k+4+2 * d)+2 by omega];exact yK (k+4+2 * d) cs hc sc ls u d (zT d) (cT d) (by omega) (fun m m0 m1=>ih sc hok (by omega) m m0 m1) p O4 m m0 m1
  ·rw[show k+2+2 * d+4=(k+4+2 * d)+2 by omega];exact(Dy (k+4+2 * d) cs hc sc (by omega) hok ls Q0 ho u d (zT d) (cT d) (by omega) ih p O4 q hq m m0 (by omega)).mono (by omega) (by omega)
theorem vB{u:Bool}{p:PV}(O4:dP p=true){A:j9}{d t z:Nat}(fA:Fw u A d 9 t z):Fw false (.cons (.choice p A .nil) .nil) (d+1) 1 0 z∧Fw false (.cons (.choice p .nil A) .nil) (d+1) 1 0 z:=by
 have a1:=fA.d;have a2:=fA.n;have a3:=fA.l;have a5:=fA.z;have c1:=jV A
 exact⟨⟨by simp[u9,wf,O4,fA.w],by simp only[aO,K_];omega,by simp[b_],by simp only[wm,Qo,dS];omega,by simp[tl],by simp only[M9,tz];omega,fun q=>by cases q⟩,
  ⟨by simp[u9,wf,O4,fA.w],by simp only[aO,K_];omega,by simp[b_],by simp only[wm,Qo,dS];omega,by simp[tl],by simp only[M9,tz];omega,fun q=>by cases q⟩⟩
theorem KH(i:Int):∃c,J_ [c]=true∧c≠126∧m_ aF (i % 94)=some c:=by
 have h0:=Int.emod_nonneg i (by decide:(94:Int)≠0);have h1:=Int.emod_lt_of_pos i (by decide:(0:Int)<94);have e:aF.length=95:=by decide
 have key:∀n:Nat,n<94→J_ [aF.getD n 0]=true∧aF.getD n 0≠126:=by decide
 obtain⟨k1,k2⟩:=key (i % 94).toNat (by omega);exact⟨aF.getD (i % 94).toNat 0,k1,k2,lS 0 h0 (by rw[e];omega)⟩
theorem yF(u:Bool)(k:Nat)(v i:Int)(i0:0≤i)(i1:i≤100)(ls:List (List Nat))(Q0:ls.length=12)(ho:∀l∈ls,J_ l=true)(A:j9){d z:Nat}(hd:d≤25)(fA:Fw u A d 8 16 z)(h:List L3.PO)(x0 x1 x2 x3 x5 x9 H_ PJ:Option PV):∃B y9 Ph Tn,Fw u B (d+1) 8 16 (z+2)∧1≤(b_ B).length∧
  gz (F (k+1)) [x0,x1,x2,x3,some (.lst (ls.map PV.str)),x5,some (.lst (b_ A)),some (.int v),some (.int i),x9,H_,PJ] h=.nx [x0,x1,x2,x3,some (.lst (ls.map PV.str)),x5,some (.lst (b_ B)),some (.int v),some (.int i),y9,Ph,Tn] h:=by
 obtain⟨c,hc,Xa,ac⟩:=KH (v / 189+i)
 have f1:Fw u (.cons (.text c []) A) d 9 17 (z+1):=by
  have:=((Fw.text (t:=1) hc (by simp) (by decide)).ap fA).mono (d':=d) (a':=9) (t':=17) (z':=z+1) (by omega) (by omega) (by omega) (by omega)
  rwa [apN,eX]at this
 obtain⟨A2,eo,f2,_,h2,_⟩:=nR k _ f1 hd (by decide) (by decide);have n3:m_ (ls.map PV.str) 3=some (.str (ls.getD 3 [])):=nU 3 (by omega);have n4:m_ (ls.map PV.str) 4=some (.str (ls.getD 4 [])):=nU 4 (by omega)
 obtain⟨p,O4,ap⟩:∃p,dP p=true∧m_ [PV.tup [.str (ls.getD 3 [])],.tup [.str (ls.getD 4 []),.str (ls.getD 3 [])]] (i % 2)=some p:=by
  have o3:=gt ho 3;have o4:=gt ho 4;rcases(by omega:i % 2=0∨i % 2=1)with q|q<;>rw[q]
  ·exact⟨_,by simp only[dP,kb];rw[o3];rfl,rfl⟩
  ·exact⟨_,by simp only[dP,kb];rw[o3,o4];rfl,rfl⟩
 have dp:∀h,ay h p=p:=fun h=>bB h (fS O4);have Xu:decide ((0:Int)<94)=true:=by decide
 have Yo:decide ((0:Int)<189∧(189:Int)<1073741824)=true:=by decide
 have p3:decide ((0:Int)<3)=true:=by decide
 have p2:decide ((0:Int)<2)=true:=by decide
 have mu:je i i=true:=nY (du.mpr ⟨by omega,by omega⟩);have mk:=iG k;have sl:=xO;have fn:=fA.n;have ll:1+(b_ A).length≤16777216:=by omega
 have zl:=fun h=>fQ h (aQ _ f1.w);rw[b_,nd]at eo zl
 obtain⟨B,w,fB,l1,s0,s1⟩:∃(B:j9)(w:Int),Fw u B (d+1) 8 16 (z+2)∧1≤(b_ B).length∧(v+i * i) % 3 % 2=w∧∃a b,m_ [PV.tup (b_ A2),.tup []] w=some (.tup a)∧m_ [PV.tup (b_ A2),.tup []] (1 - w)=some (.tup b)∧b_ B= [.tup [.str tC,p,.tup a,.tup b],.tup [.str tT,.str [126]]]:=by
  obtain⟨g1,g2⟩:=vB O4 f2;have t:Fw false (.cons (.text 126 []) .nil) 0 1 1 1:=Fw.text (by decide) (by simp) (by decide);have tc:u=true→Om A2=true:=f2.c;have h3:hdT A2=some c:=h2;have n3:Qs A2=false:=by cases A2<;>first|rfl|cases h3
  rcases(by omega:(v+i * i) % 3 % 2=0∨(v+i * i) % 3 % 2=1)with q|q
  ·refine⟨apN (.cons (.choice p A2 .nil) .nil) (.cons (.text 126 []) .nil),0,((g1.ap t).up fun z=>(by simp only[apN,Om,Ry,wU,EQ,RP,EN,h3,n3,tc z,Xa,ne_eq,not_false_eq_true,decide_true,reduceCtorEq];rfl)).mono (by omega) (by omega) (by omega) (by omega),?_,q,_,_,rfl,rfl,?_⟩
   ·rw[fG,b_,b_];simp
   ·rw[fG,b_,b_,nd,b_,b_,nd,b_];rfl
  ·refine⟨apN (.cons (.choice p .nil A2) .nil) (.cons (.text 126 []) .nil),1,((g2.ap t).up fun z=>(by simp only[apN,Om,Ry,wU,EQ,RP,EN,h3,n3,tc z,Xa,ne_eq,not_false_eq_true,decide_true,reduceCtorEq];rfl)).mono (by omega) (by omega) (by omega) (by omega),?_,q,_,_,rfl,rfl,?_⟩
   ·rw[fG,b_,b_];simp
   ·rw[fG,b_,b_,nd,b_,b_,nd,b_];rfl
 obtain⟨a,b,aw,bw,eB⟩:=s1;refine⟨B,some (.lst [.tup (b_ A2),.tup []]),some (.int w),some p,fB,l1,?_⟩;rw[eB];simp only[EV,gz,ai,mk,Xu,Yo,ac,sl,ll,zl,eo,mu,p3,p2,s0,n3,n4,ap,dp,aw,bw]
theorem qe(u:Bool)(k:Nat)(v:Int)(ls:List (List Nat))(Q0:ls.length=12)(ho:∀l∈ls,J_ l=true)(h:List L3.PO)(x0 x1 x2 x3 x5:Option PV):∀(xs:List Nat),(∀i∈xs,i≤100)→∀(A:j9)(d z:Nat),d+xs.length≤25→Fw u A d 8 16 z→1≤(b_ A).length→∀x8 x9 H_ PJ:Option PV,∃B y8 y9 Ph Tn,Fw u B (d+xs.length) 8 16 (z+2 * xs.length)∧1≤(b_ B).length∧
  aZ (n8 8) (gz (F (k+1))) (xs.map fun i=>PV.int (0+(i:Nat))) [x0,x1,x2,x3,some (.lst (ls.map PV.str)),x5,some (.lst (b_ A)),some (.int v),x8,x9,H_,PJ] h=.nx [x0,x1,x2,x3,some (.lst (ls.map PV.str)),x5,some (.lst (b_ B)),some (.int v),y8,y9,Ph,Tn] h
 |[],_,A,d,z,hd,fA,lA,x8,x9,H_,PJ=>⟨A,x8,x9,H_,PJ,fA,lA,rfl⟩
 |i::r,hi,A,d,z,hd,fA,lA,x8,x9,H_,PJ=>by rw[List.length_cons]at hd;have hi0:=hi i (List.mem_cons_self ..);obtain⟨B1,y9,Ph,Tn,f1,l1,e1⟩:=yF u k v (0+(i:Int)) (by omega) (by omega) ls Q0 ho A (by omega) fA h x0 x1 x2 x3 x5 x9 H_ PJ;obtain⟨B,b8,b9,Zi,b11,f2,l2,e2⟩:=qe u k v ls Q0 ho h x0 x1 x2 x3 x5 r (fun j hj=>hi j (List.mem_cons_of_mem _ hj)) B1 (d+1) (z+2) (by omega) f1 l1 (some (.int (0+(i:Int)))) y9 Ph Tn;refine⟨B,b8,b9,Zi,b11,f2.mono (by rw[List.length_cons];omega) (Nat.le_refl _) (Nat.le_refl _) (by rw[List.length_cons];omega),l2,?_⟩;rw[List.map_cons];exact(cu rfl e1).trans e2
theorem vq(v:Int)(x0 x1 x2 x3 x4 x5 x6 x8 x9 H_ PJ:Option PV)(h:List L3.PO):∃m:Nat,m≤20∧bD (aa (c2 jx (c2 aU (c2 bA (ae 7) abJ) (cK (.int 21))) (cN kY (aa (c2 m9 (c2 aU (ae 7) abJ) aad) ag))) ag) [x0,x1,x2,x3,x4,x5,x6,some (.int v),x8,x9,H_,PJ] h=.ok ((List.range m).map fun i=>PV.int (0+(i:Nat))) h:=by
 have p9:decide ((0:Int)<9∧(9:Int)<1073741824)=true:=by decide
 have ZV:decide ((0:Int)<9)=true:=by decide
 have ZW:decide ((0:Int)<21)=true:=by decide
 have t1:∀h,kY [.bl true] h=.ok (.int 1) h:=fun h=>rfl;have t0:∀h,kY [.bl false] h=.ok (.int 0) h:=fun h=>rfl;have q0:=Int.emod_nonneg (v / 9) (by decide:(21:Int)≠0);have q1:=Int.emod_lt_of_pos (v / 9) (by decide:(0:Int)<21);have m1:je (v / 9 % 21) 1=true:=mi (by decide);have m0:je (v / 9 % 21) 0=true:=mi (by decide)
 by_cases q:v % 9=1
 ·have b:Rv 4611686018427387904 (v / 9 % 21 * 1)=true:=du.mpr ⟨by omega,by omega⟩;refine⟨(v / 9 % 21 * 1).toNat,by omega,?_⟩;simp only[EV,cP,p9,ZV,ZW,q,decide_true,t1,m1,b]
 ·have b:Rv 4611686018427387904 (v / 9 % 21 * 0)=true:=du.mpr ⟨by omega,by omega⟩;refine⟨(v / 9 % 21 * 0).toNat,by omega,?_⟩;simp only[EV,cP,p9,ZV,ZW,q,decide_false,t0,m0,b]
theorem Fw.gd{u:Bool}{A:j9}{d a t z:Nat}(f:Fw u A d a t z)(hd:d≤23)(ha:a≤1000)(hz:z≤8000000):Gd A:=by have h1:=f.d;have h2:=f.n;have h3:=f.l;have h4:=f.z;have h5:=jV A;exact⟨f.w,by omega,by omega,by omega⟩
theorem DQ(k:Nat)(cs:List Int)(hc:cs.length≤32)(first:Int)(u:Bool):∃(ns:j9)(ls:List (List Nat))(n':Int),Gd ns∧(u=true→Om ns=true)∧1≤(b_ ns).length∧(b_ ns).length≤1000∧L (k+12) .M5 [cv cs,.ref 0,.int first,.bl u] [o8 0]=.ok (.tup [.tup (b_ ns),.lst (ls.map PV.str)]) [o8 n']:=by
 obtain⟨ls,Q0,ho,en⟩:=AO (k+10) first
 obtain⟨sc,l10,hok,es⟩:=zu (k+9) ls Q0 ho;have c3:cT 3=3217:=by decide
 have z3:zT 3=29548:=by decide
 obtain⟨A,n1,eA,fA,lA,a1,a2⟩:=pR cs hc ls Q0 ho u k 3 (by decide) sc (by omega) hok 0 (by decide) (by rw[c3];decide);rw[c3]at a2;rw[z3]at fA;obtain⟨v,v0,_,ev⟩:=lO (k+10) cs hc n1 a1 (by omega);obtain⟨m,hm,em⟩:=vq v (some (cv cs)) (some (.ref 0)) (some (.int first)) (some (.bl u)) (some (.lst (ls.map PV.str))) (some (av sc ls u)) (some (.lst (b_ A))) none none none none [o8 (n1+1)];have rl:(List.range m).length=m:=List.length_range;obtain⟨B,y8,y9,Ph,Tn,fB,lB,eB⟩:=qe u (k+10) v ls Q0 ho [o8 (n1+1)] (some (cv cs)) (some (.ref 0)) (some (.int first)) (some (.bl u)) (some (av sc ls u)) (List.range m) (fun i hi=>by have:=List.mem_range.mp hi;omega) A 3 29548 (by omega) fA lA none none none none;rw[rl]at fB;obtain⟨C,eC,fC,lC⟩:=nR (k+10) B fB (by omega) (by decide) (by decide);have cn:=fC.n;refine⟨C,ls,n1+1,fC.gd (by omega) (by decide) (by omega),fC.c,lC.1 lB,by omega,?_⟩;have zl:=fun h=>fQ h (ce ls);have zB:=fun h=>fQ h (aQ B fB.w);have pr:aI [av sc ls u,.int 3]=true:=by simp[aI,PV.pure,gK,ce]
 have cA:=ib (t:=[]) (bQ cs) pr eA (dX fA.w);have cc:=ib (t:=[]) (rest:=[]) (bQ cs) rfl ev rfl;have d0:∀n,ay [o8 n] (.ref 0)=.ref 0:=fun _=>rfl;have e4:aC 4 (aA (F (k+11) .Mj) aaw) [some (cv cs),some (.ref 0),some (.int first),some (.bl u),none,none,none,none,none,none,none,none] [o8 0]=.nx [some (cv cs),some (.ref 0),some (.int first),some (.bl u),some (.lst (ls.map PV.str)),none,none,none,none,none,none,none] [o8 0]:=bj (by simp only[EV,ai,en]);have e5:aC 5 (cN au (aa (aA (F (k+11) .Mi) aaM) (aa (ae 4) aaA))) [some (cv cs),some (.ref 0),some (.int first),some (.bl u),some (.lst (ls.map PV.str)),none,none,none,none,none,none,none] [o8 0]=.nx [some (cv cs),some (.ref 0),some (.int first),some (.bl u),some (.lst (ls.map PV.str)),some (av sc ls u),none,none,none,none,none,none] [o8 0]:=bj (by simp only[EV,ai,zl,es]);have e6:aC 6 (bp (L (k+11) .u_) (aa (ae 0) (aa (ae 1) (aa (ae 5) (aa aah ag))))) [some (cv cs),some (.ref 0),some (.int first),some (.bl u),some (.lst (ls.map PV.str)),some (av sc ls u),none,none,none,none,none,none] [o8 0]=.nx [some (cv cs),some (.ref 0),some (.int first),some (.bl u),some (.lst (ls.map PV.str)),some (av sc ls u),some (.lst (b_ A)),none,none,none,none,none] [o8 n1]:=bj cA;have e7:aC 7 (bp (L (k+11) .D_) aaB) [some (cv cs),some (.ref 0),some (.int first),some (.bl u),some (.lst (ls.map PV.str)),some (av sc ls u),some (.lst (b_ A)),none,none,none,none,none] [o8 n1]=.nx [some (cv cs),some (.ref 0),some (.int first),some (.bl u),some (.lst (ls.map PV.str)),some (av sc ls u),some (.lst (b_ A)),some (.int v),none,none,none,none] [o8 (n1+1)]:=bj cc
 have e8:dD (bD (aa (c2 jx (c2 aU (c2 bA (ae 7) abJ) (cK (.int 21))) (cN kY (aa (c2 m9 (c2 aU (ae 7) abJ) aad) ag))) ag)) (n8 8) (gz (F (k+11))) [some (cv cs),some (.ref 0),some (.int first),some (.bl u),some (.lst (ls.map PV.str)),some (av sc ls u),some (.lst (b_ A)),some (.int v),none,none,none,none] [o8 (n1+1)]=.nx [some (cv cs),some (.ref 0),some (.int first),some (.bl u),some (.lst (ls.map PV.str)),some (av sc ls u),some (.lst (b_ B)),some (.int v),y8,y9,Ph,Tn] [o8 (n1+1)]:=by unfold dD;rw[em];exact eB
 have bd:gU (F (k+11)) (L (k+11)) [some (cv cs),some (.ref 0),some (.int first),some (.bl u),none,none,none,none,none,none,none,none] [o8 0]=.rt (.tup [.tup (b_ C),.lst (ls.map PV.str)]) [o8 (n1+1)]:=by unfold gU;rw[aD e4,aD e5,aD e6,aD e7,aD e8];simp only[EV,ai,zB,eC]
 show hJ (gU (F (k+11)) (L (k+11))) 4 12 [cv cs,.ref 0,.int first,.bl u] [o8 0]=_;exact kR (f:=gU (F (k+11)) (L (k+11))) (np:=4) (n:=12) rfl bd (vw (n1+1) [] (by simp[PV.pure,aI,aQ C fC.w,ce]))
theorem qp(k:Nat)(ns:List Int)(j:Nat):F (k+1) .u5 [.Mv (ns.map PV.int),.int (j:Int)]=.ok (.int (ns.getD j 0)):=by
 show aJ (eL (F k)) 2 2 [.Mv (ns.map PV.int),.int (j:Int)]=_;have ln:∀h,gI [.Mv (ns.map PV.int)] h=.ok (.int ns.length) h:=fun h=>by rw[Jf,List.length_map]
 have fi:∀i:Int,cW (.int i) []=.ok (.int i):=fun _=>rfl
 by_cases q:j<ns.length
 ·have d1:decide ((j:Int)<(ns.length:Int))=true:=decide_eq_true (by omega)
  have ax:m_ (ns.map PV.int) (j:Int)=some (.int (ns.getD j 0)):=cU (by omega) (by rw[List.getElem?_map,List.getD_eq_getElem?_getD,Int.toNat_natCast,List.getElem?_eq_getElem q];rfl)
  generalize ns.map PV.int=l at*;simp only[EV,aJ,eL,ln,d1,ax,fi]
 ·have d1:decide ((j:Int)<(ns.length:Int))=false:=decide_eq_false (by omega);have e:ns.getD j 0=0:=by rw[List.getD_eq_getElem?_getD,List.getElem?_eq_none (by omega)];rfl
  rw[e];generalize ns.map PV.int=l at*;simp only[EV,aJ,eL,ln,d1,fi]
theorem Eb(ns:List Int):∃cs:List Int,cs.length≤32∧cut (ns.map PV.int) (some 2) (some 34)=cs.map PV.int:=by have e2:HT.G3 (ns.map PV.int).length 0 (some 2)=min 2 (ns.map PV.int).length:=HT.Qu _ _ 2;have e34:HT.G3 (ns.map PV.int).length (ns.map PV.int).length (some 34)=min 34 (ns.map PV.int).length:=HT.Qu _ _ 34;unfold cut;rw[e2,e34,← List.map_drop,← List.map_take];refine⟨_,?_,rfl⟩;rw[List.length_take,List.length_drop,List.length_map];omega
theorem gr{g:Gx}{b:Sx}{p v:PV}{r:List PV}{ρ ρ1:Ev}{h h2:List L3.PO}(hg:g p ρ=some ρ1)(hb:b ρ1 h=.rt v h2):aZ g b (p::r) ρ h=.rt v h2:=by simp only[aZ,hg,hb]
theorem jr{f g:Sx}{ρ:Ev}{h h1:List L3.PO}{v:PV}(e:f ρ h=.rt v h1):ak f g ρ h=.rt v h1:=by unfold ak;rw[e]
theorem GT{g:Gx}{b:Sx}(p:PV)(r:List PV)(ρ:Ev)(h:List L3.PO):aZ g b (p::r) ρ h=match g p ρ with|some ρ1=>(match b ρ1 h with|.nx ρ2 h2=>aZ g b r ρ2 h2|.ct ρ2 h2=>aZ g b r ρ2 h2|.bk ρ2 h2=>.nx ρ2 h2|.rt v h2=>.rt v h2|.exc v h2=>.exc v h2|.bad=>.bad)|none=>.bad:=rfl
theorem og{g:Gx}{b:Sx}:∀(xs ys:List PV){ρ ρ1:Ev}{h h1:List L3.PO},aZ g b xs ρ h=.nx ρ1 h1→(∀ ρ h ρ2 h2,b ρ h≠.bk ρ2 h2)→aZ g b (xs++ys) ρ h=aZ g b ys ρ1 h1
 |[],ys,ρ,ρ1,h,h1,e,_=>by cases e;rfl
 |p::r,ys,ρ,ρ1,h,h1,e,nb=>by
  rw[List.cons_append];rw[GT]at e ⊢
  cases q:g p ρ with
  |none=>rw[q]at e;cases e
  |some ρ2=>
   rw[q]at e;dsimp only at e ⊢
   cases w:b ρ2 h with
   |nx ρ3 h3=>rw[w]at e;exact og r ys e nb
   |ct ρ3 h3=>rw[w]at e;exact og r ys e nb
   |bk ρ3 h3=>exact absurd w (nb _ _ _ _)
   |rt v h3=>rw[w]at e;cases e
   |exc v h3=>rw[w]at e;cases e
   |bad=>rw[w]at e;cases e
theorem dj{f:Sx}{np n:Nat}{ps:List PV}{h1:List L3.PO}{v:PV}{r:Out}(hl:ps.length=np)(e:f (ps.map some++List.replicate (n - ps.length) none) []=.rt v h1)(g:cW v h1=r):aJ f np n ps=r:=by unfold aJ;rw[if_pos hl,e];exact g
theorem qy{l:List Nat}{f g:Nat→Bool}(h:∀c∈l,f c=g c):l.all f=l.all g:=by rw[Bool.eq_iff_iff,List.all_eq_true,List.all_eq_true];exact⟨fun q c hc=>by rw[← h c hc];exact q c hc,fun q c hc=>by rw[h c hc];exact q c hc⟩
noncomputable def mkT(ks:List (List Nat)):List (PK×PV):=ks.map fun k=>(.inr k,.bl true)
noncomputable def gb(ks:List (List Nat))(k:List Nat):List (List Nat):=if ks.contains k=true then ks else ks++ [k]
def bF(ks more:List (List Nat)):List (List Nat):=more.foldl gb ks
noncomputable def bC(ks:List (List Nat))(k:List Nat):List (List Nat):=ks.filter fun x=>!decide (x=k)
theorem lu(x:List Nat)(r:List (List Nat)):mkT (x::r)=(.inr x,.bl true)::mkT r:=rfl
theorem lq(ks:List (List Nat)):(mkT ks).length=ks.length:=List.length_map _
theorem Ba(x k:List Nat):decide ((Sum.inr x:PK)=.inr k)=decide (x=k):=by
 by_cases h:x=k
 ·rw[h];simp
 ·have:¬ (Sum.inr x:PK)=.inr k:=fun e=>h (by injection e);rw[decide_eq_false h,decide_eq_false this]
theorem lE(x k:List Nat)(r:List (List Nat)):(x::r).contains k=(decide (x=k)||r.contains k):=by
 rw[List.contains_cons]
 congr 1
 rw[Bool.eq_iff_iff,beq_iff_eq,decide_eq_true_eq];exact eq_comm
theorem wJ(k:List Nat):∀ks:List (List Nat),((mkT ks).any fun kv=>decide (kv.1=(.inr k:PK)))=ks.contains k
 |[]=>rfl
 |x::r=>by rw[lu,List.any_cons,wJ k r,lE,Ba]
theorem wI(ks:List (List Nat))(k:List Nat):kT (mkT ks) (.inr k) (.bl true)=mkT (gb ks k):=by
 unfold kT gb;rw[wJ]
 by_cases h:ks.contains k=true
 ·rw[if_pos h,if_pos h];unfold mkT;rw[List.map_map];refine List.map_congr_left fun x _=>?_;show(if(Sum.inr x:PK)=.inr k then((Sum.inr x:PK),PV.bl true)else(.inr x,.bl true))=_
  split<;>rfl
 ·rw[if_neg h,if_neg h];unfold mkT;rw[List.map_append];rfl
theorem lj(k:List Nat):∀ks:List (List Nat),jk (mkT ks) (.inr k)=if ks.contains k=true then some (.bl true)else none
 |[]=>rfl
 |x::r=>by
  have ih:=lj k r;unfold jk at ih ⊢;rw[lu,List.find?_cons,lE];have e:=Ba x k
  by_cases h:x=k
  ·rw[decide_eq_true h]at e ⊢;simp only[e];rfl
  ·rw[decide_eq_false h]at e ⊢;simp only[e,Bool.false_or];exact ih
theorem sS(ks:List (List Nat))(k:List Nat):oB (mkT ks) (.inr k)=mkT (bC ks k):=by
 unfold oB mkT bC;rw[List.filter_map]
 congr 1
 refine List.filter_congr fun x _=>?_;show decide ((Sum.inr x:PK)≠.inr k)=!decide (x=k)
 by_cases h:x=k
 ·rw[h];simp
 ·have:¬ (Sum.inr x:PK)=.inr k:=fun e=>h (by injection e);simp[h,this]
theorem oa:∀(more ks:List (List Nat)),(mkT more).foldl (fun acc kv=>kT acc kv.1 kv.2) (mkT ks)=mkT (bF ks more)
 |[],ks=>rfl
 |x::r,ks=>by rw[lu,List.foldl_cons];show(mkT r).foldl _ (kT (mkT ks) (.inr x) (.bl true))=_;rw[wI,oa r (gb ks x)];rfl
theorem cV:∀ks:List (List Nat),gc (mkT ks)=true
 |[]=>rfl
 |x::r=>by rw[lu,gc,cV r];rfl
theorem oe(ks:List (List Nat)):((mkT ks).map fun p=>lD p.1)=ks.map PV.str:=by unfold mkT;rw[List.map_map];rfl
theorem jw(ks:List (List Nat))(k x:List Nat):(gb ks k).contains x=(ks.contains x||decide (k=x)):=by
 unfold gb
 by_cases h:ks.contains k=true
 ·rw[if_pos h]
  by_cases e:k=x
  ·subst e;rw[h];rfl
  ·rw[decide_eq_false e,Bool.or_false]
 ·rw[if_neg h]
  have:(ks++ [k]).contains x=(ks.contains x|| [k].contains x):=by rw[Bool.eq_iff_iff];simp
  rw[this,lE];simp
theorem lY(x:List Nat):∀(more ks:List (List Nat)),(bF ks more).contains x=(ks.contains x||more.contains x)
 |[],ks=>by simp[bF]
 |y::r,ks=>by show(bF (gb ks y) r).contains x=_;rw[lY x r,jw,lE,Bool.or_assoc]
theorem tF(ks:List (List Nat))(k x:List Nat):(bC ks k).contains x=(ks.contains x&&!decide (x=k)):=by unfold bC;rw[Bool.eq_iff_iff,List.contains_iff_mem,List.mem_filter,Bool.and_eq_true,List.contains_iff_mem]
theorem xh{ks:List (List Nat)}{k:List Nat}(h:ks.contains k=false):bC ks k=ks:=by
 unfold bC;rw[List.filter_eq_self];intro x hx
 have:x≠k:=fun e=>by subst e;rw[List.contains_iff_mem.mpr hx]at h;cases h
 simp[this]
def KU:List (List Nat):=[]::aF.map fun c=> [c]
def gk(ks:List (List Nat)):Prop:=ks.Nodup∧∀x∈ks,x∈KU
theorem pP:∀(l u:List (List Nat)),l.Nodup→(∀x∈l,x∈u)→l.length≤u.length
 |[],u,_,_=>Nat.zero_le _
 |a::r,u,h,g=>by
  have h':=List.nodup_cons.mp h;have ha:=g a (List.mem_cons_self ..)
  have ih:=pP r (u.erase a) h'.2 fun x hx=>by have ne:x≠a:=fun e=>h'.1 (by rw[← e];exact hx);exact(List.mem_erase_of_ne ne).mpr (g x (List.mem_cons_of_mem _ hx))
  rw[List.length_erase_of_mem ha]at ih;have:=List.length_pos_of_mem ha;rw[List.length_cons];omega
theorem jE{ks:List (List Nat)}(h:gk ks):ks.length≤96:=Nat.le_trans (pP ks KU h.1 h.2) (by decide)
theorem vm{ks:List (List Nat)}{k:List Nat}(h:gk ks)(hk:k∈KU):gk (gb ks k):=by
 unfold gb
 by_cases z:ks.contains k=true
 ·rw[if_pos z];exact h
 ·rw[if_neg z];refine⟨List.nodup_append.mpr ⟨h.1,by simp,fun x hx y hy=>?_⟩,fun x hx=>?_⟩
  ·rw[List.mem_singleton.mp hy];intro e;subst e;exact z (List.contains_iff_mem.mpr hx)
  ·rcases List.mem_append.mp hx with q|q
   ·exact h.2 x q
   ·rw[List.mem_singleton.mp q];exact hk
theorem wV:∀(more:List (List Nat)){ks:List (List Nat)},gk ks→(∀x∈more,x∈KU)→gk (bF ks more)
 |[],_,h,_=>h
 |y::r,ks,h,g=>wV r (vm h (g y (List.mem_cons_self ..))) fun x hx=>g x (List.mem_cons_of_mem _ hx)
theorem Hm{ks:List (List Nat)}(k:List Nat)(h:gk ks):gk (bC ks k):=⟨h.1.filter _,fun x hx=>h.2 x (List.mem_filter.mp hx).1⟩
theorem JR{c:Nat}(h:c∈aF): [c]∈KU:=List.mem_cons_of_mem _ (List.mem_map.mpr ⟨c,h,rfl⟩)
structure FK(ks:List (List Nat))(f:Nat→Bool)(e:Bool):Prop where
 g:gk ks
 s:∀c∈aF,ks.contains [c]=f c
 v:ks.contains []=e
theorem FK.congr{ks:List (List Nat)}{f f':Nat→Bool}{e e':Bool}(h:FK ks f e)(hf:∀c∈aF,f c=f' c)(he:e=e'):FK ks f' e':=⟨h.g,fun c hc=>(h.s c hc).trans (hf c hc),h.v.trans he⟩
theorem FK.nil:FK [] (fun _=>false) false:=⟨⟨List.nodup_nil,fun x hx=>by cases hx⟩,fun _ _=>rfl,rfl⟩
theorem FK.puts{ks more:List (List Nat)}{f f':Nat→Bool}{e e':Bool}(h:FK ks f e)(g:FK more f' e'):FK (bF ks more) (fun c=>f c||f' c) (e||e'):=
 ⟨wV more h.g g.g.2,fun c hc=>by rw[lY,h.s c hc,g.s c hc],by rw[lY,h.v,g.v]⟩
theorem FK.Vl{ks:List (List Nat)}{f:Nat→Bool}{e:Bool}{c:Nat}(h:FK ks f e)(hc:c∈aF):FK (gb ks [c]) (fun d=>f d||decide (d=c)) e:=
 ⟨vm h.g (JR hc),fun d hd=>by
  rw[jw,h.s d hd]
  congr 1
  rw[Bool.eq_iff_iff,decide_eq_true_eq,decide_eq_true_eq];exact⟨fun z=>by injection z with z;exact z.symm,fun z=>by rw[z]⟩,by rw[jw,h.v];simp⟩
theorem FK.TQ{ks:List (List Nat)}{f:Nat→Bool}{e:Bool}(h:FK ks f e):FK (gb ks []) f true:=
 ⟨vm h.g (List.mem_cons_self ..),fun d hd=>by rw[jw,h.s d hd];simp,by rw[jw];simp⟩
theorem FK.XS{ks:List (List Nat)}{f:Nat→Bool}{e:Bool}(h:FK ks f e):FK (bC ks []) f false:=
 ⟨Hm [] h.g,fun d hd=>by rw[tF,h.s d hd];simp,by rw[tF];simp⟩
abbrev hq(A:List (PK×PV))(js:List PO)(B:List (PK×PV)):List PO:=.dct A::(js++ [.dct B])
theorem vh(A:List (PK×PV))(js:List PO)(B:List (PK×PV)):(hq A js B)[js.length+1]? =some (.dct B):=by show(js++ [PO.dct B])[js.length]? =_;simp
theorem qT(A:List (PK×PV))(js:List PO)(B:List (PK×PV)):cG (hq A js B) (.ref (js.length+1))=some (js.length+1,B):=by show(match(hq A js B)[js.length+1]? with|some (.dct kvs)=>some (js.length+1,kvs)|_=>none)=_;rw[vh]
theorem wP(A:List (PK×PV))(js:List PO)(B:List (PK×PV)):ay (hq A js B) (.ref (js.length+1))=.ref (js.length+1):=by show(match(hq A js B)[js.length+1]? with|some (.o9 q)=>q|_=>.ref (js.length+1))=_;rw[vh]
theorem Hh(A:List (PK×PV))(js:List PO)(B B':List (PK×PV)):(hq A js B).set (js.length+1) (.dct B')=hq A js B':=by show PO.dct A::(js++ [PO.dct B]).set js.length (.dct B')=_;rw[jp]
theorem oq(A:List (PK×PV))(h:List PO):ay (.dct A::h) (.ref 0)=.ref 0:=rfl
theorem kE:eS (.str [])=some (.inr []):=rfl
theorem Bb(A:List (PK×PV))(js:List PO)(bs:List (List Nat))(d:Bool)(hd:bs.contains []=false→d=false):mF (.ref (js.length+1)) (.str []) (.bl false) (hq A js (mkT bs))=.ok (.bl (bs.contains [])) (hq A js (mkT (bC bs []))):=by
 unfold mF;simp only[qT,kE,lj,sS,Hh]
 cases z:bs.contains []with
 |true=>rfl
 |false=>rw[xh z];rfl
theorem IN(js:List PO)(ks:List (List Nat))(b:PV):mF (.ref 0) (.str []) b (.dct (mkT ks)::js)=.ok (if ks.contains []=true then .bl true else b) (.dct (mkT (bC ks []))::js):=by
 have l0:cG (.dct (mkT ks)::js) (.ref 0)=some (0,mkT ks):=rfl;unfold mF;simp only[l0,kE,lj,sS]
 cases z:ks.contains []with
 |true=>rfl
 |false=>rw[xh z];rfl
theorem qS(js:List PO){ks bs:List (List Nat)}(hk:gk ks)(hb:gk bs):rR (.ref 0) (.ref (js.length+1)) (hq (mkT ks) js (mkT bs))=.ok .non (hq (mkT (bF ks bs)) js (mkT bs)):=by
 have l0:cG (hq (mkT ks) js (mkT bs)) (.ref 0)=some (0,mkT ks):=rfl
 have o:AH (hq (mkT ks) js (mkT bs)) 0 (.ref (js.length+1))=some (mkT bs):=by show(if js.length+1=0 then none else match(hq (mkT ks) js (mkT bs))[js.length+1]? with|some (.dct kps)=>some kps|_=>none)=_;rw[if_neg (by omega),vh]
 have a:=jE hk;have b:=jE hb;unfold rR;simp only[l0,o];rw[if_pos (by rw[szl,lq,lq];omega),oa];rfl
theorem HS(js:List PO){ks bs:List (List Nat)}(hk:gk ks)(hb:gk bs):rR (.ref 0) (.dct (mkT bs)) (.dct (mkT ks)::js)=.ok .non (.dct (mkT (bF ks bs))::js):=by have l0:cG (.dct (mkT ks)::js) (.ref 0)=some (0,mkT ks):=rfl;have o:AH (.dct (mkT ks)::js) 0 (.dct (mkT bs))=some (mkT bs):=rfl;have a:=jE hk;have b:=jE hb;unfold rR;simp only[l0,o];rw[if_pos (by rw[szl,lq,lq];omega),oa];rfl
theorem xP(ρ:Ev)(js:List PO){ks:List (List Nat)}(hk:gk ks)(k:List Nat):sv (.bl true) (.ref 0) (.str k) ρ (.dct (mkT ks)::js)=.nx ρ (.dct (mkT (gb ks k))::js):=by have a:=jE hk;rw[Fo,if_pos (by rw[szl,lq];omega),wI]
theorem Z9(js:List PO)(ks:List (List Nat))(k:List Nat):Rz (.str k) (.ref 0) (.dct (mkT ks)::js)=.ok (.bl (ks.contains k)) (.dct (mkT ks)::js):=by
 show(match(some (jk (mkT ks) (.inr k)).isSome:Option Bool)with|some b=>Res.ok (PV.bl b) (.dct (mkT ks)::js)|none=>.bad)=_;rw[lj]
 cases ks.contains k<;>rfl
theorem inD(h:List PO)(ks:List (List Nat))(k:List Nat):Rz (.str k) (.dct (mkT ks)) h=.ok (.bl (ks.contains k)) h:=by
 show(match(some (jk (mkT ks) (.inr k)).isSome:Option Bool)with|some b=>Res.ok (PV.bl b) h|none=>.bad)=_;rw[lj]
 cases ks.contains k<;>rfl
theorem Bk{p:PV}(h:List PO)(hp:p.pure=true):Ms [p] h=some ([p],h):=by rw[yE,cH h hp];rfl
theorem eK{fn:List PV→Res PV}{p:PV}{A:List (PK×PV)}{h:List PO}(hp:p.pure=true)(ha:gc A=true)(e:fn [p]=.ok (.ref 0) [.dct A]):oK fn [p] h=.ok (.ref h.length) (h++ [.dct A]):=by unfold oK;rw[Bk h hp];simp only[e];rw[if_pos (by simpa[PO.pure]using ha)]
theorem tD(js:List PO)(ks:List (List Nat)):Bo (.ref 0) (.dct (mkT ks)::js)=.ok (.ref 0) [.dct (mkT ks)]:=by unfold Bo;simp only[List.getElem?_cons_zero];rw[if_pos (by simpa[PO.pure]using cV ks)]
theorem kP{f:Sx}{np n:Nat}{ps:List PV}{h1:List PO}{v:PV}{r:Res PV}(hl:ps.length=np)(e:f (ps.map some++List.replicate (n - ps.length) none) []=.rt v h1)(g:Bo v h1=r):L3.kQ f np n ps=r:=by unfold L3.kQ;rw[if_pos hl,e];exact g
theorem iH(ks:List (List Nat)):(PV.dct (mkT ks)).pure=true:=by rw[PV.pure];exact cV ks
theorem XJ(js:List PO)(ks:List (List Nat)):U_ (.ref 0) (.dct (mkT ks)::js)=.ok (.dct (mkT ks)) (.o9 (.dct (mkT ks))::js):=Jo js (cV ks)
theorem PV.t_{l:List PV}(h:aI l=true):(PV.tup l).pure=true:=by rw[PV.pure];exact h
def pk(w:Nat):List (List Nat):=match M 12 .m8 [nd (.place .non w)]with
 |.ok _ [.dct kvs]=>kvs.map fun kv=>match kv.1 with
  |.inr k=>k
  |.inl _=> []
 |_=> []
theorem AM(k:Nat)(p:PV):∀w,w<5→M (k+6) .m8 [nd (.place p w)]=.ok (.ref 0) [.dct (mkT (pk w))]
 |0,_=>by kernel_rfl
 |1,_=>by kernel_rfl
 |2,_=>by kernel_rfl
 |3,_=>by kernel_rfl
 |4,_=>by kernel_rfl
 |n+5,h=>absurd h (by omega)
noncomputable def Dt:List (List Nat)→Bool
 |[]=>true
 |x::r=>!r.contains x&&Dt r
theorem wH:∀{l:List (List Nat)},Dt l=true→l.Nodup
 |[],_=>List.nodup_nil
 |x::r,h=>by
  rw[Dt,Bool.and_eq_true]at h;refine List.nodup_cons.mpr ⟨fun q=>?_,wH h.2⟩;have:=h.1;rw[List.contains_iff_mem.mpr q]at this
  cases this
theorem Gk:((List.range 5).all fun w=>Dt (pk w)&&((pk w).all fun x=>KU.contains x)&&(aF.all fun c=>(pk w).contains [c]==(Xl w).contains c)&&((pk w).contains []==Yg w))=true:=by kernel_rfl
theorem IO(p:PV){w:Nat}(hw:w<5):FK (pk w) (fst (.place p w)) (vd (.place p w)):=by have a:=List.all_eq_true.mp Gk w (List.mem_range.mpr hw);simp only[Bool.and_eq_true]at a;obtain⟨⟨⟨a1,a2⟩,a3⟩,a4⟩:=a;exact⟨⟨wH a1,fun x hx=>List.contains_iff_mem.mp (List.all_eq_true.mp a2 x hx)⟩,fun c hc=>by rw[fst];exact eq_of_beq (List.all_eq_true.mp a3 c hc),by rw[vd];exact eq_of_beq a4⟩
theorem Ds(k:Nat){c:Nat}{s:List Nat}(h:txt (c::s)=true):M (k+1) .m8 [nd (.text c s)]=.ok (.ref 0) [.dct (mkT [[c]])]:=by
 have e1:∀h,m9 (.str tT) (.str tT) h=.ok (.bl true) h:=fun h=>by kernel_rfl
 have hl:s.length≤16777215:=by have:=hV h;rw[List.length_cons]at this;omega
 have a0:m_ [PV.str tT,PV.str (c::s)] 0=some (.str tT):=rfl;have a1:m_ [PV.str tT,PV.str (c::s)] 1=some (.str (c::s)):=rfl;have a2:m_ (c::s) 0=some c:=cU (by decide) rfl;have ky:eS (.str [c])=some (.inr [c]):=rfl;show L3.kQ (aN (F k) (M k)) 1 3 [nd (.text c s)]=_
 have bd:aN (F k) (M k) [some (nd (.text c s)),none,none] []=.rt (.ref 0) [.dct (mkT [[c]])]:=by simp only[EV,aN,nd,a0,a1,a2,e1,hl,ky];rfl
 exact kP (f:=aN (F k) (M k)) (np:=1) (n:=3) rfl bd (tD [] [[c]])
theorem BU{c:Nat}{s:List Nat}(hc:c∈aF):FK [[c]] (fst (.text c s)) (vd (.text c s)):=(FK.nil.Vl hc).congr (fun d _=>by rw[fst];rfl) (by rw[vd])
def NF(k:Nat):j9→Prop
 |.nil=>True
 |.cons n r=>(∃bs,M k .m8 [nd n]=.ok (.ref 0) [.dct (mkT bs)]∧FK bs (fst n) (vd n))∧NF k r
theorem xb(k:Nat)(t:PV):∀(ns:j9)(ks:List (List Nat))(A:Nat→Bool)(js:List PO)(x y z:Option PV),u9 ns=true→NF k ns→FK ks A false→∃QK Ov x' y' z',FK QK (fun d=>A d||bE ns d) false∧
  aZ (n8 2) (eG (F k) (M k)) (b_ ns) [some t,some (.ref 0),x,y,z] (.dct (mkT ks)::js)=if M7 ns=true then .nx [some t,some (.ref 0),x',y',z'] (.dct (mkT QK)::Ov)else .rt (.ref 0) (.dct (mkT QK)::Ov)
 |.nil,ks,A,js,x,y,z,_,_,h=>⟨ks,js,x,y,z,h.congr (fun d _=>by simp[bE]) rfl,rfl⟩
 |.cons n r,ks,A,js,x,y,z,hw,hn,h=>by
  rw[u9,Bool.and_eq_true]at hw;obtain⟨bs,eb,fb⟩:=hn.1;have cn:=eK (h:=.dct (mkT ks)::js) (gq n hw.1) (cV bs) eb;have dr:ay (.dct (mkT ks)::js) (nd n)=nd n:=by cases n<;>rfl
  have e3:aC 3 (eW (M k .m8) aaw) [some t,some (.ref 0),some (nd n),y,z] (.dct (mkT ks)::js)=.nx [some t,some (.ref 0),some (nd n),some (.ref (js.length+1)),z] (hq (mkT ks) js (mkT bs)):=bj (by simp only[EV,dr,cn])
  have fd:=fb.XS;have fp:=h.puts fd;have pp:=Bb (mkT ks) js bs (bs.contains []) (fun q=>q);have lv:(cG (hq (mkT ks) js (mkT bs)) (.ref (js.length+1))).isSome=true:=by rw[qT];rfl
  have d3:=wP (mkT ks) js (mkT bs);rw[fb.v]at pp
  have e4:aC 4 (lP (ae 3) aai aav) [some t,some (.ref 0),some (nd n),some (.ref (js.length+1)),z] (hq (mkT ks) js (mkT bs))=.nx [some t,some (.ref 0),some (nd n),some (.ref (js.length+1)),some (.bl (vd n))] (hq (mkT ks) js (mkT (bC bs []))):=bj (by generalize hq (mkT ks) js (mkT bs)=h0 at*;generalize hq (mkT ks) js (mkT (bC bs []))=h1 at*;simp only[EV,d3,lv,pp])
  have up:=qS js h.g fd.g;have d0:ay (hq (mkT ks) js (mkT (bC bs []))) (.ref 0)=.ref 0:=rfl;have d4:=wP (mkT ks) js (mkT (bC bs []));have l0:(cG (hq (mkT ks) js (mkT (bC bs []))) (.ref 0)).isSome=true:=rfl
  have e5:bY (pc (ae 1) (ae 3)) [some t,some (.ref 0),some (nd n),some (.ref (js.length+1)),some (.bl (vd n))] (hq (mkT ks) js (mkT (bC bs [])))=.nx [some t,some (.ref 0),some (nd n),some (.ref (js.length+1)),some (.bl (vd n))] (hq (mkT (bF ks (bC bs []))) js (mkT (bC bs []))):=by generalize hq (mkT ks) js (mkT (bC bs []))=h0 at*;generalize hq (mkT (bF ks (bC bs []))) js (mkT (bC bs []))=h1 at*;simp only[EV,d0,d4,l0,up]
  have d5:ay (hq (mkT (bF ks (bC bs []))) js (mkT (bC bs []))) (.ref 0)=.ref 0:=rfl
  have body:eG (F k) (M k) [some t,some (.ref 0),some (nd n),y,z] (.dct (mkT ks)::js)=if vd n=true then .nx [some t,some (.ref 0),some (nd n),some (.ref (js.length+1)),some (.bl (vd n))] (hq (mkT (bF ks (bC bs []))) js (mkT (bC bs [])))else .rt (.ref 0) (hq (mkT (bF ks (bC bs []))) js (mkT (bC bs []))):=by
   unfold eG;rw[aD e3,aD e4,aD e5];generalize hq (mkT (bF ks (bC bs []))) js (mkT (bC bs []))=h1 at*
   cases vd n<;>simp only[EV,d5]
  cases v:vd n with
  |true=>rw[v,if_pos rfl]at body;obtain⟨QK,Ov,x',y',z',f',e'⟩:=xb k t r _ (fun d=>A d||fst n d) (js++ [.dct (mkT (bC bs []))]) (some (nd n)) (some (.ref (js.length+1))) (some (.bl true)) hw.2 hn.2 fp;refine⟨QK,Ov,x',y',z',f'.congr (fun d _=>by rw[bE,v,Bool.true_and,Bool.or_assoc]) rfl,?_⟩;rw[M7,v,Bool.true_and,← e',b_];exact cu rfl body
  |false=>rw[v,if_neg (by decide)]at body;refine⟨bF ks (bC bs []),js++ [.dct (mkT (bC bs []))],none,none,none,fp.congr (fun d _=>by rw[bE,v,Bool.false_and,Bool.or_false]) rfl,?_⟩;rw[M7,v,Bool.false_and,b_,if_neg (by decide)];exact gr rfl body
theorem xa(k:Nat)(ns:j9)(hw:u9 ns=true)(hn:NF k ns):∃ks,M (k+1) .v5 [.tup (b_ ns)]=.ok (.ref 0) [.dct (mkT ks)]∧FK ks (bE ns) (M7 ns):=by
 obtain⟨QK,Ov,x',y',z',f',e'⟩:=xb k (.tup (b_ ns)) ns [] (fun _=>false) [] none none none hw hn FK.nil;have e1:aC 1 tU [some (.tup (b_ ns)),none,none,none,none] []=.nx [some (.tup (b_ ns)),some (.ref 0),none,none,none] [.dct (mkT [])]:=rfl;have fr:∀res,aZ (n8 2) (eG (F k) (M k)) (b_ ns) [some (.tup (b_ ns)),some (.ref 0),none,none,none] [.dct (mkT [])]=res→dD abd (n8 2) (eG (F k) (M k)) [some (.tup (b_ ns)),some (.ref 0),none,none,none] [.dct (mkT [])]=res:=fun res e=>e;show∃ks,L3.kQ (cZ (F k) (M k)) 1 5 [.tup (b_ ns)]=.ok (.ref 0) [.dct (mkT ks)]∧_
 cases v:M7 ns with
 |true=>
  rw[v,if_pos rfl]at e';have st:=fun ρ=>xP ρ Ov f'.g [];refine⟨gb QK [],?_,f'.TQ.congr (fun d _=>Bool.false_or _) rfl⟩
  have bd:cZ (F k) (M k) [some (.tup (b_ ns)),none,none,none,none] []=.rt (.ref 0) (.dct (mkT (gb QK []))::Ov):=by unfold cZ;rw[aD e1,aD (fr _ e')];have d0:=oq (mkT QK) Ov;have d1:=oq (mkT (gb QK [])) Ov;simp only[EV,d0,d1,st]
  exact kP (f:=cZ (F k) (M k)) (np:=1) (n:=5) rfl bd (tD _ _)
 |false=>
  rw[v]at e';refine⟨QK,?_,f'.congr (fun d _=>Bool.false_or _) rfl⟩
  have bd:cZ (F k) (M k) [some (.tup (b_ ns)),none,none,none,none] []=.rt (.ref 0) (.dct (mkT QK)::Ov):=by unfold cZ;rw[aD e1];exact jr (fr _ e')
  exact kP (f:=cZ (F k) (M k)) (np:=1) (n:=5) rfl bd (tD _ _)
mutual
theorem Ja:∀n:Nd,wf n=true→∀k,4 * K_ n+6≤k→∃bs,M k .m8 [nd n]=.ok (.ref 0) [.dct (mkT bs)]∧FK bs (fst n) (vd n)
 |.text c s,h,k,hk=>by
  obtain⟨j,rfl⟩:∃j,k=j+1:=⟨k - 1,by omega⟩
  rw[wf]at h;exact⟨_,Ds j h,BU (mf (eN h) c (List.mem_cons_self ..))⟩
 |.place p w,h,k,hk=>by
  rw[wf,Bool.and_eq_true]at h;obtain⟨j,rfl⟩:∃j,k=j+6:=⟨k - 6,by omega⟩
  exact⟨_,AM j p w (of_decide_eq_true h.2),IO p (of_decide_eq_true h.2)⟩
 |.loop m p ns b,h,k,hk=>by
  rw[wf,Bool.and_eq_true,Bool.and_eq_true]at h;rw[K_]at hk;obtain⟨j,rfl⟩:∃j,k=j+2:=⟨k - 2,by omega⟩
  obtain⟨ks,ek,fk⟩:=xa j ns h.1.2 (nW ns h.1.2 j (by omega));have cn:=eK (h:=[]) (PV.t_ (aQ ns h.1.2)) (cV ks) ek;rw[List.length_nil,List.nil_append]at cn;have e1:∀h,m9 (.str tL) (.str tT) h=.ok (.bl false) h:=fun h=>by kernel_rfl
  have e2:∀h,m9 (.str tL) (.str tP) h=.ok (.bl false) h:=fun h=>by kernel_rfl
  have e3:∀h,m9 (.str tL) (.str tC) h=.ok (.bl false) h:=fun h=>by kernel_rfl
  have a0:m_ [PV.str tL,PV.str m,p,PV.tup (b_ ns),PV.str b] 0=some (.str tL):=rfl;have a3:m_ [PV.str tL,PV.str m,p,PV.tup (b_ ns),PV.str b] 3=some (.tup (b_ ns)):=rfl;have a4:m_ [PV.str tL,PV.str m,p,PV.tup (b_ ns),PV.str b] 4=some (.str b):=rfl;have ne:=fun hh=>qO b [] hh (ue h.2) (by simp);have iT:=Z9 [] ks [];rw[fk.v]at iT;have d0:∀A:List (PK×PV),ay [.dct A] (.ref 0)=.ref 0:=fun _=>rfl;show∃bs,L3.kQ (aN (F (j+1)) (M (j+1))) 1 3 [nd (.loop m p ns b)]=.ok (.ref 0) [.dct (mkT bs)]∧_
  have fin:∀bs,FK bs (fst (.loop m p ns b)) true→aN (F (j+1)) (M (j+1)) [some (nd (.loop m p ns b)),none,none] []=.rt (.ref 0) [.dct (mkT bs)]→∃bs,L3.kQ (aN (F (j+1)) (M (j+1))) 1 3 [nd (.loop m p ns b)]=.ok (.ref 0) [.dct (mkT bs)]∧FK bs (fst (.loop m p ns b)) (vd (.loop m p ns b)):=fun bs f e=>⟨bs,kP (f:=aN (F (j+1)) (M (j+1))) (np:=1) (n:=3) rfl e (tD [] bs),by rw[vd];exact f⟩
  have st:=fun ρ=>xP ρ [] fk.g []
  cases v:M7 ns with
  |false=>rw[v]at iT;refine fin (gb ks []) (fk.TQ.congr (fun d _=>by rw[fst,v,Bool.false_and,Bool.or_false]) rfl) ?_;simp only[EV,aN,nd,a0,a3,a4,e1,e2,e3,cn,iT,d0,st]
  |true=>
   rw[v]at iT
   cases b with
   |nil=>refine fin (gb ks []) (fk.TQ.congr (fun d _=>by rw[fst,v];simp) rfl) ?_;simp only[EV,aN,nd,a0,a3,a4,e1,e2,e3,cn,iT,d0,st,ne]
   |cons x t=>
    have hx:x∈aF:=mf (eN h.2) x (List.mem_cons_self ..);have f1:=fk.Vl hx;have V0:=fun ρ=>xP ρ [] fk.g [x];have TF:=fun ρ=>xP ρ [] f1.g [];have a2:m_ (x::t) 0=some x:=cU (by decide) rfl;have hl:t.length≤16777215:=by have:=hV h.2;rw[List.length_cons]at this;omega
    refine fin (gb (gb ks [x]) []) (f1.TQ.congr (fun d _=>by rw[fst,v];simp) rfl) ?_;simp only[EV,aN,nd,a0,a2,a3,a4,e1,e2,e3,cn,iT,d0,V0,TF,ne,hl]
 |.choice p y n,h,k,hk=>by
  rw[wf,Bool.and_eq_true,Bool.and_eq_true]at h;rw[K_]at hk;obtain⟨j,rfl⟩:∃j,k=j+2:=⟨k - 2,by omega⟩
  obtain⟨ks,ek,fk⟩:=xa j y h.1.2 (nW y h.1.2 j (by omega));obtain⟨ls,el,fl⟩:=xa j n h.2 (nW n h.2 j (by omega));have cn:=eK (h:=[]) (PV.t_ (aQ y h.1.2)) (cV ks) ek;have cm:=eK (h:=[.dct (mkT ks)]) (PV.t_ (aQ n h.2)) (cV ls) el;rw[List.length_nil,List.nil_append]at cn;rw[List.length_singleton,List.singleton_append]at cm;have up:rR (.ref 0) (.ref 1) [.dct (mkT ks),.dct (mkT ls)]=.ok .non [.dct (mkT (bF ks ls)),.dct (mkT ls)]:=qS [] fk.g fl.g;have e1:∀h,m9 (.str tC) (.str tT) h=.ok (.bl false) h:=fun h=>by kernel_rfl
  have e2:∀h,m9 (.str tC) (.str tP) h=.ok (.bl false) h:=fun h=>by kernel_rfl
  have e3:∀h,m9 (.str tC) (.str tC) h=.ok (.bl true) h:=fun h=>by kernel_rfl
  have a0:m_ [PV.str tC,p,PV.tup (b_ y),PV.tup (b_ n)] 0=some (.str tC):=rfl;have a2:m_ [PV.str tC,p,PV.tup (b_ y),PV.tup (b_ n)] 2=some (.tup (b_ y)):=rfl;have a3:m_ [PV.str tC,p,PV.tup (b_ y),PV.tup (b_ n)] 3=some (.tup (b_ n)):=rfl;have d0:∀(A:List (PK×PV))(r:List PO),ay (.dct A::r) (.ref 0)=.ref 0:=fun _ _=>rfl;have l0:∀(A:List (PK×PV))(r:List PO),(cG (.dct A::r) (.ref 0)).isSome=true:=fun _ _=>rfl;show∃bs,L3.kQ (aN (F (j+1)) (M (j+1))) 1 3 [nd (.choice p y n)]=.ok (.ref 0) [.dct (mkT bs)]∧_
  have bd:aN (F (j+1)) (M (j+1)) [some (nd (.choice p y n)),none,none] []=.rt (.ref 0) [.dct (mkT (bF ks ls)),.dct (mkT ls)]:=by simp only[EV,aN,nd,a0,a2,a3,e1,e2,e3,cn,cm,d0,l0,up]
  exact⟨_,kP (f:=aN (F (j+1)) (M (j+1))) (np:=1) (n:=3) rfl bd (tD _ _),(fk.puts fl).congr (fun d _=>by rw[fst]) (by rw[vd])⟩
theorem nW:∀ns:j9,u9 ns=true→∀k,4 * aO ns+6≤k→NF k ns
 |.nil,_,_,_=>True.intro
 |.cons n r,h,k,hk=>by rw[u9,Bool.and_eq_true]at h;rw[aO]at hk;exact⟨Ja n h.1 k (by omega),nW r h.2 k (by omega)⟩
end
theorem xc(ns:j9)(hw:u9 ns=true)(k:Nat)(hk:4 * aO ns+7≤k):∃ks,M k .v5 [.tup (b_ ns)]=.ok (.ref 0) [.dct (mkT ks)]∧FK ks (bE ns) (M7 ns):=by
 obtain⟨j,rfl⟩:∃j,k=j+1:=⟨k - 1,by omega⟩
 exact xa j ns hw (nW ns hw j (by omega))
inductive Lp where
 |no
 |lp (n:List Nat) (p:PV) (ns:j9) (b:List Nat)
def Mt:Lp→PV
 |.no=>.non
 |.lp n p ns b=>nd (.loop n p ns b)
def V4:Lp→Bool
 |.no=>true
 |.lp n p ns b=>wf (.loop n p ns b)
noncomputable def Xx:Lp→Nat
 |.no=>0
 |.lp _ _ ns _=>aO ns
def O3:Lp→Nat→Bool
 |.no,_=>false
 |.lp _ _ ns b,c=>if b= []then bE ns c else(b.take 1).contains c
noncomputable def O_:Nat→j9→j9
 |0,A=>A
 |_+1,.nil=>.nil
 |i+1,.cons _ r=>O_ i r
theorem rh:∀(i:Nat)(A:j9),b_ (O_ i A)=(b_ A).drop i
 |0,A=>by rw[O_];rfl
 |i+1,.nil=>by rw[O_,b_];rfl
 |i+1,.cons n r=>by rw[O_,rh i r,b_];rfl
theorem Bv:∀(i:Nat)(A:j9),u9 A=true→u9 (O_ i A)=true∧aO (O_ i A)≤aO A
 |0,A,h=>by rw[O_];exact⟨h,Nat.le_refl _⟩
 |i+1,.nil,h=>by rw[O_];exact⟨h,Nat.le_refl _⟩
 |i+1,.cons n r,h=>by rw[u9,Bool.and_eq_true]at h;have:=Bv i r h.2;rw[O_,aO];exact⟨this.1,by omega⟩
abbrev Ti:=j9×Nat×Lp
def tv(x:Ti):PV:=.tup [.tup (b_ x.1),.int x.2.1,Mt x.2.2]
def fW:List Ti→Nat→Bool
 |[],_=>false
 |x::up,c=>bE (O_ (x.2.1+1) x.1) c||(M7 (O_ (x.2.1+1) x.1)&&(O3 x.2.2 c||fW up c))
def fZ:List Ti→Bool
 |[]=>true
 |x::up=>M7 (O_ (x.2.1+1) x.1)&&fZ up
structure oP(B:Nat)(x:Ti):Prop where
 w:u9 x.1=true
 d:aO x.1≤B
 i:x.2.1<(b_ x.1).length
 lw:V4 x.2.2=true
 ld:Xx x.2.2≤B
theorem sW{l:Lp}(h:V4 l=true):(Mt l).pure=true:=by
 cases l with
 |no=>rfl
 |lp n p ns b=>exact gq _ h
theorem BT{B:Nat}{x:Ti}(h:oP B x):(tv x).pure=true:=by rw[tv,PV.pure,aI,aI,aI,PV.t_ (aQ _ h.w),sW h.lw];rfl
theorem rV{B:Nat}:∀(tr:List Ti),(∀x∈tr,oP B x)→aI (tr.map tv)=true
 |[],_=>rfl
 |x::r,h=>by rw[List.map_cons,aI,BT (h x (List.mem_cons_self ..)),rV r fun y hy=>h y (List.mem_cons_of_mem _ hy)];rfl
theorem Ej(k B:Nat)(hk:4 * B+7≤k)(x:Ti)(ok:oP B x)(t:PV)(ks:List (List Nat))(A:Nat→Bool)(fk:FK ks A false)(js:List PO)(y5 y6:Option PV):∃QK Ov z5 z6,dB (F k) (M k) [some t,some (.ref 0),some (.tup (b_ x.1)),some (.int x.2.1),some (Mt x.2.2),y5,y6] (.dct (mkT ks)::js)=
   (if M7 (O_ (x.2.1+1) x.1)=true then .nx [some t,some (.ref 0),some (.tup (b_ x.1)),some (.int x.2.1),some (Mt x.2.2),z5,z6] (.dct (mkT QK)::Ov)else .rt (.dct (mkT QK)) (.o9 (.dct (mkT QK))::Ov))∧
   FK QK (fun c=>A c||(bE (O_ (x.2.1+1) x.1) c||(M7 (O_ (x.2.1+1) x.1)&&O3 x.2.2 c))) false:=by
 obtain⟨ns,i,lp⟩:=x;have ow:=ok.w;have od:=ok.d;have oi:=ok.i;have ZX:=ok.lw;have old:=ok.ld;dsimp only at ow od oi ZX old ⊢;obtain⟨dw,dd⟩:=Bv (i+1) ns ow;obtain⟨bs,eb,fb⟩:=xc (O_ (i+1) ns) dw k (by omega);have cn:=eK (h:=.dct (mkT ks)::js) (PV.t_ (aQ _ dw)) (cV bs) eb
 have sl:∀h,mL (.tup (b_ ns)) (some ((i:Int)+1)) none h=.ok (.tup (b_ (O_ (i+1) ns))) h:=fun h=>by
  have:=zk (h:=h) (b_ ns) (i+1) (by omega);rw[rh]
  rwa [Int.natCast_add]at this
 have e5:aC 5 (eW (M k .v5) (aa abb ag)) [some t,some (.ref 0),some (.tup (b_ ns)),some (.int i),some (Mt lp),y5,y6] (.dct (mkT ks)::js)=.nx [some t,some (.ref 0),some (.tup (b_ ns)),some (.int i),some (Mt lp),some (.ref (js.length+1)),y6] (hq (mkT ks) js (mkT bs)):=bj (by simp only[EV,sl,cn])
 have fd:=fb.XS;have fp:=fk.puts fd;have pp:=Bb (mkT ks) js bs (bs.contains []) (fun q=>q);have lv:(cG (hq (mkT ks) js (mkT bs)) (.ref (js.length+1))).isSome=true:=by rw[qT];rfl
 have d3:=wP (mkT ks) js (mkT bs);rw[fb.v]at pp;generalize hv:M7 (O_ (i+1) ns)=v at*
 have e6:aC 6 (lP (ae 5) aai aav) [some t,some (.ref 0),some (.tup (b_ ns)),some (.int i),some (Mt lp),some (.ref (js.length+1)),y6] (hq (mkT ks) js (mkT bs))=.nx [some t,some (.ref 0),some (.tup (b_ ns)),some (.int i),some (Mt lp),some (.ref (js.length+1)),some (.bl v)] (hq (mkT ks) js (mkT (bC bs []))):=bj (by generalize hq (mkT ks) js (mkT bs)=h0 at*;generalize hq (mkT ks) js (mkT (bC bs []))=h1 at*;simp only[EV,d3,lv,pp])
 have up:=qS js fk.g fd.g;have d0:ay (hq (mkT ks) js (mkT (bC bs []))) (.ref 0)=.ref 0:=rfl;have d4:=wP (mkT ks) js (mkT (bC bs []));have l0:(cG (hq (mkT ks) js (mkT (bC bs []))) (.ref 0)).isSome=true:=rfl
 have e7:bY (pc (ae 1) (ae 5)) [some t,some (.ref 0),some (.tup (b_ ns)),some (.int i),some (Mt lp),some (.ref (js.length+1)),some (.bl v)] (hq (mkT ks) js (mkT (bC bs [])))=.nx [some t,some (.ref 0),some (.tup (b_ ns)),some (.int i),some (Mt lp),some (.ref (js.length+1)),some (.bl v)] (hq (mkT (bF ks (bC bs []))) js (mkT (bC bs []))):=by generalize hq (mkT ks) js (mkT (bC bs []))=h0 at*;generalize hq (mkT (bF ks (bC bs []))) js (mkT (bC bs []))=h1 at*;simp only[EV,d0,d4,l0,up]
 unfold dB;rw[aD e5,aD e6,aD e7];show∃QK Ov z5 z6,_∧_;have hqe:hq (mkT (bF ks (bC bs []))) js (mkT (bC bs []))=.dct (mkT (bF ks (bC bs [])))::(js++ [.dct (mkT (bC bs []))]):=rfl;rw[hqe];generalize js++ [PO.dct (mkT (bC bs []))]=j2;generalize bF ks (bC bs [])=k2 at*;have f0:=XJ j2 k2;have d1:=oq (mkT k2) j2
 cases v with
 |false=>refine⟨k2,j2,none,none,?_,fp.congr (fun c _=>by simp) rfl⟩;simp only[EV,d1,f0]
 |true=>
  cases lp with
  |no=>refine⟨k2,j2,some (.ref (js.length+1)),some (.bl true),?_,fp.congr (fun c _=>by simp[O3]) rfl⟩;have j2':fh .non=true:=rfl;simp only[EV,Mt,j2']<;>rfl
  |lp m p us b=>
   have ww:=ZX;rw[V4,wf,Bool.and_eq_true,Bool.and_eq_true]at ww;have nn:∀l:List PV,fh (.tup l)=false:=fun _=>rfl;have a3:m_ [PV.str tL,PV.str m,p,PV.tup (b_ us),PV.str b] 3=some (.tup (b_ us)):=rfl;have a4:m_ [PV.str tL,PV.str m,p,PV.tup (b_ us),PV.str b] 4=some (.str b):=rfl;have ne:=fun hh=>qO b [] hh (ue ww.2) (by simp)
   cases b with
   |cons x t=>
    have hx:x∈aF:=mf (eN ww.2) x (List.mem_cons_self ..);have st:=fun ρ=>xP ρ j2 fp.g [x];have a2:m_ (x::t) 0=some x:=cU (by decide) rfl;have hl:t.length≤16777215:=by have:=hV ww.2;rw[List.length_cons]at this;omega
    refine⟨gb k2 [x],j2,some (.ref (js.length+1)),some (.bl true),?_,(fp.Vl hx).congr (fun c _=>by simp[O3,Bool.or_assoc]) rfl⟩;simp only[EV,Mt,nd,nn,a2,a4,ne,hl,d1,st]<;>rfl
   |nil=>
    obtain⟨ls,el,fl⟩:=xc us ww.1.2 k (by have:aO us≤B:=old;omega);have cm:=eK (h:=.dct (mkT k2)::j2) (PV.t_ (aQ us ww.1.2)) (cV ls) el;have u2:=qS j2 fp.g fl.g;have l2:(cG (.dct (mkT k2)::j2) (.ref 0)).isSome=true:=rfl;have fq:=(fp.puts fl).XS;have p2:=IN (j2++ [.dct (mkT ls)]) (bF k2 ls) .non;have l3:(cG (hq (mkT (bF k2 ls)) j2 (mkT ls)) (.ref 0)).isSome=true:=rfl;have d5:ay (hq (mkT (bF k2 ls)) j2 (mkT ls)) (.ref 0)=.ref 0:=rfl
    have s1:bY (pc (ae 1) (eW (M k .v5) (aa aaH ag))) [some t,some (.ref 0),some (.tup (b_ ns)),some (.int i),some (.tup [.str tL,.str m,p,.tup (b_ us),.str []]),some (.ref (js.length+1)),some (.bl true)] (.dct (mkT k2)::j2)=.nx [some t,some (.ref 0),some (.tup (b_ ns)),some (.int i),some (.tup [.str tL,.str m,p,.tup (b_ us),.str []]),some (.ref (js.length+1)),some (.bl true)] (hq (mkT (bF k2 ls)) j2 (mkT ls)):=by rw[List.length_cons]at cm;have cm':oK (M k .v5) [.tup (b_ us)] (.dct (mkT k2)::j2)=.ok (.ref (j2.length+1)) (hq (mkT k2) j2 (mkT ls)):=cm;generalize hq (mkT (bF k2 ls)) j2 (mkT ls)=h1 at*;generalize hq (mkT k2) j2 (mkT ls)=h2 at*;generalize PO.dct (mkT k2)::j2=h3 at*;simp only[EV,d1,l2,a3,cm',u2]
    have s2:bY (lP (ae 1) aai aay) [some t,some (.ref 0),some (.tup (b_ ns)),some (.int i),some (.tup [.str tL,.str m,p,.tup (b_ us),.str []]),some (.ref (js.length+1)),some (.bl true)] (hq (mkT (bF k2 ls)) j2 (mkT ls))=.nx [some t,some (.ref 0),some (.tup (b_ ns)),some (.int i),some (.tup [.str tL,.str m,p,.tup (b_ us),.str []]),some (.ref (js.length+1)),some (.bl true)] (.dct (mkT (bC (bF k2 ls) []))::(j2++ [.dct (mkT ls)])):=by have V2:mF (.ref 0) (.str []) .non (hq (mkT (bF k2 ls)) j2 (mkT ls))=_:=p2;generalize PO.dct (mkT (bC (bF k2 ls) []))::(j2++ [PO.dct (mkT ls)])=h1 at*;generalize hq (mkT (bF k2 ls)) j2 (mkT ls)=h2 at*;simp only[EV,d5,l3,V2]
    refine⟨bC (bF k2 ls) [],j2++ [.dct (mkT ls)],some (.ref (js.length+1)),some (.bl true),?_,fq.congr (fun c _=>by simp[O3,Bool.or_assoc]) rfl⟩
    have go:∀g1 g2:Sx,(ak (v9 (eP (ci (ae 6))) (aP (Va (ae 1))) aW) (v9 (di aaN (aB (c2 Qv aa2 aai))) g1 (v9 aaN g2 aW))) [some t,some (.ref 0),some (.tup (b_ ns)),some (.int i),some (.tup [.str tL,.str m,p,.tup (b_ us),.str []]),some (.ref (js.length+1)),some (.bl true)] (.dct (mkT k2)::j2)=g2 [some t,some (.ref 0),some (.tup (b_ ns)),some (.int i),some (.tup [.str tL,.str m,p,.tup (b_ us),.str []]),some (.ref (js.length+1)),some (.bl true)] (.dct (mkT k2)::j2):=fun g1 g2=>by generalize PO.dct (mkT k2)::j2=h3 at*;simp only[EV,nn,a4,ne]
    rw[Mt,nd,go,aD s1,s2];rfl
theorem xv(k B:Nat)(hk:4 * B+7≤k)(t:PV):∀(up:List Ti),(∀x∈up,oP B x)→∀(ks:List (List Nat))(A:Nat→Bool),FK ks A false→∀(js:List PO)(y2 y3 y4 y5 y6:Option PV),∃QK,FK QK (fun c=>A c||fW up c) false∧
    ((fZ up=true∧∃Ov z2 z3 z4 z5 z6,aZ (Nm 3 (ar (n8 2) aa5)) (dB (F k) (M k)) (up.map tv) [some t,some (.ref 0),y2,y3,y4,y5,y6] (.dct (mkT ks)::js)=.nx [some t,some (.ref 0),z2,z3,z4,z5,z6] (.dct (mkT QK)::Ov))∨
     (fZ up=false∧∃h',aZ (Nm 3 (ar (n8 2) aa5)) (dB (F k) (M k)) (up.map tv) [some t,some (.ref 0),y2,y3,y4,y5,y6] (.dct (mkT ks)::js)=.rt (.dct (mkT QK)) h'))
  |[],_,ks,A,fk,js,y2,y3,y4,y5,y6=>⟨ks,fk.congr (fun c _=>by simp[fW]) rfl,.inl ⟨rfl,js,y2,y3,y4,y5,y6,rfl⟩⟩
  |x::up,ok,ks,A,fk,js,y2,y3,y4,y5,y6=>by
    obtain⟨k1,j1,z5,z6,e1,f1⟩:=Ej k B hk x (ok x (List.mem_cons_self ..)) t ks A fk js y5 y6;have hg:Nm 3 (ar (n8 2) aa5) (tv x) [some t,some (.ref 0),y2,y3,y4,y5,y6]=some [some t,some (.ref 0),some (.tup (b_ x.1)),some (.int x.2.1),some (Mt x.2.2),y5,y6]:=rfl;rw[List.map_cons]
    cases v:M7 (O_ (x.2.1+1) x.1)with
    |true=>rw[v,if_pos rfl]at e1;obtain⟨k2,f2,o⟩:=xv k B hk t up (fun y hy=>ok y (List.mem_cons_of_mem _ hy)) k1 _ f1 j1 (some (.tup (b_ x.1))) (some (.int x.2.1)) (some (Mt x.2.2)) z5 z6;rw[cu hg e1];refine⟨k2,f2.congr (fun c _=>by rw[fW,v];simp only[Bool.true_and,Bool.or_assoc]) rfl,?_⟩;rw[fZ,v,Bool.true_and];exact o
    |false=>rw[v]at e1;refine⟨k1,f1.congr (fun c _=>by rw[fW,v];simp only[Bool.false_and,Bool.or_false]) rfl,.inr ⟨by rw[fZ,v];rfl,_,gr hg e1⟩⟩
theorem BI(k B:Nat)(hk:4 * B+7≤k)(tr:List Ti)(ok:∀x∈tr,oP B x):∃ks,F (k+1) .K7 [.lst (tr.map tv)]=.ok (.dct (mkT ks))∧FK ks (fW tr.reverse) (fZ tr.reverse):=by
 obtain⟨ks,fk,o⟩:=xv k B hk (.lst (tr.map tv)) tr.reverse (fun x hx=>ok x (List.mem_reverse.mp hx)) [] (fun _=>false) FK.nil [] none none none none none;have e1:aC 1 tU [some (.lst (tr.map tv)),none,none,none,none,none,none] []=.nx [some (.lst (tr.map tv)),some (.ref 0),none,none,none,none,none] [.dct (mkT [])]:=rfl;have rv:(tr.map tv).reverse=tr.reverse.map tv:=List.map_reverse.symm
 have fr:∀res,aZ (Nm 3 (ar (n8 2) aa5)) (dB (F k) (M k)) (tr.reverse.map tv) [some (.lst (tr.map tv)),some (.ref 0),none,none,none,none,none] [.dct (mkT [])]=res→dD (vQ aas) (Nm 3 (ar (n8 2) aa5)) (dB (F k) (M k)) [some (.lst (tr.map tv)),some (.ref 0),none,none,none,none,none] [.dct (mkT [])]=res:=fun res e=>by rw[← rv]at e;exact e
 show∃ks,aJ (de (F k) (M k)) 1 7 [.lst (tr.map tv)]=.ok (.dct (mkT ks))∧_;rcases o with⟨v,js,z2,z3,z4,z5,z6,e⟩|⟨v,h',e⟩
 ·have st:=fun ρ=>xP ρ js fk.g [];have d0:=oq (mkT ks) js;have d1:=oq (mkT (gb ks [])) js;have f0:=XJ js (gb ks []);refine⟨gb ks [],?_,fk.TQ.congr (fun c _=>Bool.false_or _) v.symm⟩
  have bd:de (F k) (M k) [some (.lst (tr.map tv)),none,none,none,none,none,none] []=.rt (.dct (mkT (gb ks []))) (.o9 (.dct (mkT (gb ks [])))::js):=by unfold de;rw[aD e1,aD (fr _ e)];simp only[EV,d0,d1,st,f0]
  exact dj (f:=de (F k) (M k)) (np:=1) (n:=7) rfl bd (bR (iH _))
 ·refine⟨ks,?_,fk.congr (fun c _=>Bool.false_or _) v.symm⟩
  have bd:de (F k) (M k) [some (.lst (tr.map tv)),none,none,none,none,none,none] []=.rt (.dct (mkT ks)) h':=by unfold de;rw[aD e1];exact jr (fr _ e)
  exact dj (f:=de (F k) (M k)) (np:=1) (n:=7) rfl bd (bR (iH _))
def K1(ns:j9)(f:Nat→Bool)(c:Nat):Bool:=bE ns c||(M7 ns&&f c)
def K9(ns:j9)(e:Bool):Bool:=M7 ns&&e
def OJ:Nd→(Nat→Bool)→Bool→Bool
 |.text _ _,_,_=>true
 |.place _ w,f,_=>aF.all fun c=>!(f c&&!(RL w).contains c)
 |.loop _ _ ns b,f,_=>!M7 ns&&aF.all fun c=>!((bE ns c||(b.take 1).contains c)&&f c)
 |.choice _ y n,f,e=>(aF.all fun c=>!(K1 y f c&&K1 n f c))&&!(K9 y e&&K9 n e)
theorem wd(k:Nat)(ns:j9)(hw:u9 ns=true)(hk:4 * aO ns+7≤k){as:List (List Nat)}{f:Nat→Bool}{e:Bool}(fa:FK as f e):∃ks,F (k+1) .N7 [.tup (b_ ns),.dct (mkT as)]=.ok (.dct (mkT ks))∧FK ks (K1 ns f) (K9 ns e):=by
 obtain⟨bs,eb,fb⟩:=xc ns hw k hk;have cn:=eK (h:=[]) (PV.t_ (aQ ns hw)) (cV bs) eb;rw[List.length_nil,List.nil_append]at cn;have pp:=IN [] bs (.bl false);rw[fb.v]at pp;have d0:∀A:List (PK×PV),ay [.dct A] (.ref 0)=.ref 0:=fun _=>rfl;have l0:∀A:List (PK×PV),(cG [.dct A] (.ref 0)).isSome=true:=fun _=>rfl;have f0:=XJ [] (bC bs []);have fd:=fb.XS;show∃ks,aJ (dY (F k) (M k)) 2 3 [.tup (b_ ns),.dct (mkT as)]=.ok (.dct (mkT ks))∧_
 cases v:M7 ns with
 |true=>
  rw[v,if_pos rfl]at pp;have up:=HS [] fd.g fa.g;have f1:=XJ [] (bF (bC bs []) as);refine⟨bF (bC bs []) as,?_,(fd.puts fa).congr (fun c _=>by rw[K1,v,Bool.true_and]) (by rw[K9,v];rfl)⟩
  have bd:dY (F k) (M k) [some (.tup (b_ ns)),some (.dct (mkT as)),none] []=.rt (.dct (mkT (bF (bC bs []) as))) [.o9 (.dct (mkT (bF (bC bs []) as)))]:=by simp only[EV,dY,cn,d0,l0,pp,up,f1]
  exact dj (f:=dY (F k) (M k)) (np:=2) (n:=3) rfl bd (bR (iH _))
 |false=>
  rw[v,if_neg (by decide)]at pp;refine⟨bC bs [],?_,fd.congr (fun c _=>by rw[K1,v,Bool.false_and,Bool.or_false]) (by rw[K9,v];rfl)⟩
  have bd:dY (F k) (M k) [some (.tup (b_ ns)),some (.dct (mkT as)),none] []=.rt (.dct (mkT (bC bs []))) [.o9 (.dct (mkT (bC bs [])))]:=by simp only[EV,dY,cn,d0,l0,pp,f0]
  exact dj (f:=dY (F k) (M k)) (np:=2) (n:=3) rfl bd (bR (iH _))
theorem FK.fe{ks:List (List Nat)}{f:Nat→Bool}{e:Bool}(h:FK ks f e)(T:List Nat→Bool):(ks.filter T).isEmpty=((aF.all fun c=>!(f c&&T [c]))&&!(e&&T [])):=by
 have key:((ks.filter T).isEmpty=true)↔∀x∈ks,T x=false:=by rw[List.isEmpty_iff,List.filter_eq_nil_iff];exact⟨fun q x hx=>by cases z:T x with|false=>rfl|true=>exact absurd z (q x hx),fun q x hx z=>by rw[q x hx]at z;cases z⟩
 rw[Bool.eq_iff_iff,key,Bool.and_eq_true,List.all_eq_true];constructor
 ·intro q;refine⟨fun c hc=>?_,?_⟩
  ·cases z:f c with
   |false=>rfl
   |true=>have m: [c]∈ks:=List.contains_iff_mem.mp ((h.s c hc).trans z);rw[q _ m];rfl
  ·cases z:e with
   |false=>rfl
   |true=>have m:([]:List Nat)∈ks:=List.contains_iff_mem.mp (h.v.trans z);rw[q _ m];rfl
 ·rintro⟨q1,q2⟩ x hx
  have ku:=h.g.2 x hx;rcases List.mem_cons.mp ku with r|r
  ·subst r;have:=h.v;rw[List.contains_iff_mem.mpr hx]at this;rw[← this]at q2
   cases z:T []with
   |false=>rfl
   |true=>rw[z]at q2;cases q2
  ·obtain⟨c,hc,rfl⟩:=List.mem_map.mp r;have:=h.s c hc;rw[List.contains_iff_mem.mpr hx]at this;have q3:=q1 c hc;rw[← this]at q3
   cases z:T [c]with
   |false=>rfl
   |true=>rw[z]at q3;cases q3
theorem FK.lt{ks:List (List Nat)}(h:gk ks):∀l∈ks,∀c∈l,c<1114112:=fun l hl c hc=>by
 rcases List.mem_cons.mp (h.2 l hl)with r|r
 ·subst r;cases hc
 ·obtain⟨d,hd,rfl⟩:=List.mem_map.mp r;rw[List.mem_singleton.mp hc];exact uo d hd
theorem lG:∀{ls:List (List Nat)},(∀l∈ls,∀c∈l,c<1114112)→fds 0 (ls.map PV.str)
 |[],_=>iY 0
 |l::r,h=>bK (vx 0 (h l (List.mem_cons_self ..))) (lG fun m hm=>h m (List.mem_cons_of_mem _ hm))
theorem re{l:List PV}(hl:fds 0 l)(h:List L3.PO):m9 (.lst l) (.lst []) h=.ok (.bl l.isEmpty) h:=by
 have f:=Ho (ox hl (show 0≤58 by decide))
 have ok:Qp h (.lst l)=true:=by have:=f.2.1;show((toD (.lst l)).canLay0&&decide ((toD (.lst l)).depth≤60))=true;rw[f.1,Bool.true_and,decide_eq_true_eq];omega
 unfold m9;rw[if_pos ⟨ok,rfl⟩]
 cases l<;>rfl
theorem vt{tt:Tx}{te:Ex}{cp:Ev}{h:List L3.PO}(T:List Nat→Bool)(ls:List (List Nat))(h1:∀l∈ls,tt (some (.str l)::cp) h=.ok (T l) h)(h2:∀l∈ls,te (some (.str l)::cp) h=.ok (.str l) h):be tt te cp (ls.map PV.str) h=.ok ((ls.filter T).map PV.str) h:=by
 rw[gv (t:=fun p=>match p with|.str l=>T l|_=>false) (f:=fun p=>p)]
 ·rw[List.map_id'' (fun _=>rfl),List.filter_map];rfl
 ·intro p hp;obtain⟨l,hl,rfl⟩:=List.mem_map.mp hp;exact h1 l hl
 ·intro p hp;obtain⟨l,hl,rfl⟩:=List.mem_map.mp hp;exact h2 l hl
def le(w:Nat):List Nat:=match F 8 .M6 [.str (O5 w)]with
 |.ok (.str l)=>l
 |_=> []
theorem Jh(k:Nat):∀w,w<5→F (k+6) .M6 [.str (O5 w)]=.ok (.str (le w))
 |0,_=>by kernel_rfl
 |1,_=>by kernel_rfl
 |2,_=>by kernel_rfl
 |3,_=>by kernel_rfl
 |4,_=>by kernel_rfl
 |n+5,h=>absurd h (by omega)
theorem GV:((List.range 5).all fun w=>aF.all fun c=>(le w).contains c==(RL w).contains c)=true:=by kernel_rfl
theorem GU{w c:Nat}(hw:w<5)(hc:c∈aF):(le w).contains c=(RL w).contains c:=eq_of_beq (List.all_eq_true.mp (List.all_eq_true.mp GV w (List.mem_range.mpr hw)) c hc)
theorem Hf(l:List Nat):eT [] l=true:=by unfold eT cD;rw[List.find?_isSome];exact⟨0,List.mem_range.mpr (Nat.succ_pos _),by simp⟩
theorem wb(T:List Nat→Bool){ks:List (List Nat)}(h:gk ks):∀l∈ks.filter T,∀c∈l,c<1114112:=fun l hl=>FK.lt h l (List.mem_filter.mp hl).1
theorem DE(k:Nat)(n:Nd)(hw:wf n=true)(hk:4 * K_ n+9≤k){as:List (List Nat)}{f:Nat→Bool}{e:Bool}(fa:FK as f e):F (k+1) .z_ [nd n,.dct (mkT as)]=.ok (.bl (OJ n f e)):=by
 show aJ (bV (F k) (M k)) 2 5 [nd n,.dct (mkT as)]=_;have al:=jE fa.g;have fi:∀b:Bool,cW (.bl b) []=.ok (.bl b):=fun _=>rfl;have ky:=oe as
 cases n with
 |text c s=>
  have e1:∀h,m9 (.str tT) (.str tP) h=.ok (.bl false) h:=fun h=>by kernel_rfl
  have e2:∀h,m9 (.str tT) (.str tL) h=.ok (.bl false) h:=fun h=>by kernel_rfl
  have e3:∀h,m9 (.str tT) (.str tC) h=.ok (.bl false) h:=fun h=>by kernel_rfl
  have a0:m_ [PV.str tT,PV.str (c::s)] 0=some (.str tT):=rfl;simp only[EV,aJ,bV,nd,a0,e1,e2,e3,fi,OJ]
 |place p w=>
  rw[wf,Bool.and_eq_true]at hw;have hw5:=of_decide_eq_true hw.2;obtain⟨j,rfl⟩:∃j,k=j+6:=⟨k - 6,by omega⟩
  have el:=Jh j w hw5;have e1:∀h,m9 (.str tP) (.str tP) h=.ok (.bl true) h:=fun h=>by kernel_rfl
  have a0:m_ [PV.str tP,p,PV.str (O5 w)] 0=some (.str tP):=rfl;have a2:m_ [PV.str tP,p,PV.str (O5 w)] 2=some (.str (O5 w)):=rfl
  have cm:∀h,be (gF (F (j+6))) (gO (F (j+6))) [some (.tup [.str tP,p,.str (O5 w)])] (as.map PV.str) h=.ok ((as.filter fun l=>!eT l (le w)).map PV.str) h:=fun h=>vt _ as (fun l _=>by simp only[EV,gF,a2,ai,el]) (fun l _=>by simp only[EV,gO])
  have cp:∀a b c d,dL [0] [some (.tup [.str tP,p,.str (O5 w)]),a,b,c,d]=[some (.tup [.str tP,p,.str (O5 w)])]:=fun _ _ _ _=>rfl;have ln:(as.map PV.str).length<16777216:=by rw[List.length_map];omega
  have en:=re (lG (wb (fun l=>!eT l (le w)) fa.g))
  have fin:((as.filter fun l=>!eT l (le w)).map PV.str).isEmpty=OJ (.place p w) f e:=by
   have q:=fa.fe fun l=>!eT l (le w);rw[Hf,Bool.not_true,Bool.and_false,Bool.not_false,Bool.and_true]at q;have z:((as.filter fun l=>!eT l (le w)).map PV.str).isEmpty=(as.filter fun l=>!eT l (le w)).isEmpty:=by cases(as.filter fun l=>!eT l (le w))<;>rfl
   rw[z,q,OJ];exact qy fun c hc=>by rw[eI,GU hw5 hc]
  simp only[EV,aJ,bV,nd,a0,e1,ky,ln,cp,cm,en,fin,fi]
 |loop m p ns b=>
  rw[wf,Bool.and_eq_true,Bool.and_eq_true]at hw;rw[K_]at hk;obtain⟨ks,ek,fk⟩:=xc ns hw.1.2 k (by omega);have cn:=eK (h:=[]) (PV.t_ (aQ ns hw.1.2)) (cV ks) ek;rw[List.length_nil,List.nil_append]at cn;have e1:∀h,m9 (.str tL) (.str tP) h=.ok (.bl false) h:=fun h=>by kernel_rfl
  have e2:∀h,m9 (.str tL) (.str tL) h=.ok (.bl true) h:=fun h=>by kernel_rfl
  have a0:m_ [PV.str tL,PV.str m,p,PV.tup (b_ ns),PV.str b] 0=some (.str tL):=rfl;have a3:m_ [PV.str tL,PV.str m,p,PV.tup (b_ ns),PV.str b] 3=some (.tup (b_ ns)):=rfl;have a4:m_ [PV.str tL,PV.str m,p,PV.tup (b_ ns),PV.str b] 4=some (.str b):=rfl;have iT:=Z9 [] ks [];rw[fk.v]at iT;have d0:∀A:List (PK×PV),ay [.dct A] (.ref 0)=.ref 0:=fun _=>rfl;have fi2:∀(b:Bool)(A:List PO),cW (.bl b) A=.ok (.bl b):=fun _ _=>rfl
  cases v:M7 ns with
  |true=>
   rw[v]at iT;have ec:OJ (.loop m p ns b) f e=false:=by rw[OJ,v];rfl
   rw[ec];simp only[EV,aJ,bV,nd,a0,a3,e1,e2,cn,iT,d0,fi2]
  |false=>
   rw[v]at iT;have kl:=jE fk.g
   have la:jy [.ref 0] [.dct (mkT ks)]=.ok (.lst (ks.map PV.str)) [.dct (mkT ks)]:=by rw[DB,oe]
   have hb:b.length≤16777216:=Nat.le_trans (hV hw.2) (by decide);have tb:(b.take 1).length≤16777216:=by rw[List.length_take];omega
   have bm:(b.take 1).map (fun c=>PV.str [c])=((b.take 1).map fun c=> [c]).map PV.str:=by rw[List.map_map];rfl
   have t1:(b.take 1).length≤1:=by rw[List.length_take];omega
   have ad:(ks.map PV.str).length+(((b.take 1).map fun c=> [c]).map PV.str).length≤16777216:=by simp only[List.length_map];omega
   have ap:ks.map PV.str++((b.take 1).map fun c=> [c]).map PV.str=(ks++(b.take 1).map fun c=> [c]).map PV.str:=List.map_append.symm
   have cm:∀h,be (gE (F k)) (gN (F k)) [some (.dct (mkT as))] ((ks++(b.take 1).map fun c=> [c]).map PV.str) h=.ok (((ks++(b.take 1).map fun c=> [c]).filter fun l=>as.contains l).map PV.str) h:=fun h=>vt _ _ (fun l _=>by simp only[EV,gE,inD]) (fun l _=>by simp only[EV,gN])
   have cp:∀a b c d,dL [1] [a,some (.dct (mkT as)),b,c,d]=[some (.dct (mkT as))]:=fun _ _ _ _=>rfl;have ln:((ks++(b.take 1).map fun c=> [c]).map PV.str).length<16777216:=by simp only[List.length_map,List.length_append];omega
   have bs:∀c∈b.take 1,c∈aF:=fun c hc=>mf (eN hw.2) c (List.mem_of_mem_take hc)
   have lt:∀l∈(ks++(b.take 1).map fun c=> [c]).filter fun l=>as.contains l,∀c∈l,c<1114112:=fun l hl=>by
    rcases List.mem_append.mp (List.mem_filter.mp hl).1 with q|q
    ·exact FK.lt fk.g l q
    ·obtain⟨c,hc,rfl⟩:=List.mem_map.mp q;intro d hd;rw[List.mem_singleton.mp hd];exact uo c (bs c hc)
   have en:=re (lG lt)
   have fin:(((ks++(b.take 1).map fun c=> [c]).filter fun l=>as.contains l).map PV.str).isEmpty=OJ (.loop m p ns b) f e:=by
    have z:(((ks++(b.take 1).map fun c=> [c]).filter fun l=>as.contains l).map PV.str).isEmpty=((ks.filter fun l=>as.contains l).isEmpty&&(b.take 1).all fun c=>!as.contains [c]):=by
     rw[List.filter_append,List.map_append]
     have q:(((b.take 1).map fun c=> [c]).filter fun l=>as.contains l).isEmpty=(b.take 1).all fun c=>!as.contains [c]:=by
      generalize b.take 1=l
      induction l with
      |nil=>rfl
      |cons x r ih=>
       rw[List.map_cons,List.filter_cons,List.all_cons]
       cases y:as.contains [x]with
       |true=>simp
       |false=>simpa[y]using ih
     rw[← q]
     cases(ks.filter fun l=>as.contains l)<;>cases(((b.take 1).map fun c=> [c]).filter fun l=>as.contains l)<;>rfl
    rw[z,fk.fe,v,Bool.false_and,Bool.not_false,Bool.and_true,OJ,v,Bool.not_false,Bool.true_and];rw[Bool.eq_iff_iff,Bool.and_eq_true,List.all_eq_true,List.all_eq_true,List.all_eq_true];constructor
    ·rintro⟨q1,q2⟩ c hc
     have x1:=q1 c hc;rw[fa.s c hc]at x1
     cases y:(b.take 1).contains c with
     |false=>rw[Bool.or_false];exact x1
     |true=>
      have x2:=q2 c (List.contains_iff_mem.mp y);rw[fa.s c hc]at x2
      cases w:f c with
      |false=>rw[Bool.and_false];rfl
      |true=>rw[w]at x2;cases x2
    ·intro q;refine⟨fun c hc=>?_,fun c hc=>?_⟩
     ·have x:=q c hc;rw[fa.s c hc]
      cases y:bE ns c with
      |false=>rfl
      |true=>rw[y,Bool.true_or]at x;exact x
     ·have x:=q c (bs c hc);rw[fa.s c (bs c hc)];rw[List.contains_iff_mem.mpr hc,Bool.or_true,Bool.true_and]at x;exact x
   simp only[EV,aJ,bV,nd,a0,a3,a4,e1,e2,cn,iT,d0,la,DA,hb,yI,tb,bm,ad,ap,Fp,ln,cp,cm,en,fin,fi2]
 |choice p y n=>
  rw[wf,Bool.and_eq_true,Bool.and_eq_true]at hw;rw[K_]at hk;obtain⟨j,rfl⟩:∃j,k=j+1:=⟨k - 1,by omega⟩
  obtain⟨Ss,ey,fy⟩:=wd j y hw.1.2 (by omega) fa;obtain⟨kn,en',fn⟩:=wd j n hw.2 (by omega) fa;have e1:∀h,m9 (.str tC) (.str tP) h=.ok (.bl false) h:=fun h=>by kernel_rfl
  have e2:∀h,m9 (.str tC) (.str tL) h=.ok (.bl false) h:=fun h=>by kernel_rfl
  have e3:∀h,m9 (.str tC) (.str tC) h=.ok (.bl true) h:=fun h=>by kernel_rfl
  have a0:m_ [PV.str tC,p,PV.tup (b_ y),PV.tup (b_ n)] 0=some (.str tC):=rfl;have Xp:∀h,mL (.tup [PV.str tC,p,PV.tup (b_ y),PV.tup (b_ n)]) (some 2) (some 4) h=.ok (.tup [.tup (b_ y),.tup (b_ n)]) h:=fun _=>rfl;have z1:=fun h=>cx (ns:=y) hw.1.2 h;have z2:=fun h=>cx (ns:=n) hw.2 h;have z3:=fun h=>cH h (iH as)
  have c3:∀h,be bX (gM (F (j+1))) [some (.dct (mkT as))] [.tup (b_ y),.tup (b_ n)] h=.ok [.dct (mkT Ss),.dct (mkT kn)] h:=fun h=>by simp only[EV,be,gM,ai,z1,z2,z3,ey,en']
  have cp1:∀a b c d,dL [1] [a,some (.dct (mkT as)),b,c,d]=[some (.dct (mkT as))]:=fun _ _ _ _=>rfl;have i0:∀h,d7 (.lst [.dct (mkT Ss),.dct (mkT kn)]) (.int 0) h=.ok (.dct (mkT Ss)) h:=fun _=>rfl;have i1:∀h,d7 (.lst [.dct (mkT Ss),.dct (mkT kn)]) (.int 1) h=.ok (.dct (mkT kn)) h:=fun _=>rfl
  have cm:∀h,be (gD (F (j+1))) (gL (F (j+1))) [some (.lst [.dct (mkT Ss),.dct (mkT kn)])] (Ss.map PV.str) h=.ok ((Ss.filter fun l=>kn.contains l).map PV.str) h:=fun h=>vt _ Ss (fun l _=>by simp only[EV,gD,i1,inD]) (fun l _=>by simp only[EV,gL])
  have cp4:∀a b c d,dL [4] [a,b,c,d,some (.lst [.dct (mkT Ss),.dct (mkT kn)])]=[some (.lst [.dct (mkT Ss),.dct (mkT kn)])]:=fun _ _ _ _=>rfl;have yl:=jE fy.g;have ln:(Ss.map PV.str).length<16777216:=by rw[List.length_map];omega
  have ln2:(2:Nat)<16777216:=by decide
  have kk:=oe Ss;have en:=re (lG (wb (fun l=>kn.contains l) fy.g))
  have fin:((Ss.filter fun l=>kn.contains l).map PV.str).isEmpty=OJ (.choice p y n) f e:=by
   have q:=fy.fe fun l=>kn.contains l;rw[fn.v]at q;have z:((Ss.filter fun l=>kn.contains l).map PV.str).isEmpty=(Ss.filter fun l=>kn.contains l).isEmpty:=by cases(Ss.filter fun l=>kn.contains l)<;>rfl
   rw[z,q,OJ]
   congr 1
   exact qy fun c hc=>by rw[fn.s c hc]
  simp only[EV,aJ,bV,nd,a0,e1,e2,e3,Xp,ln2,cp1,c3,i0,kk,ln,cp4,cm,en,fin,fi]
mutual
def dU:Nd→(Nat→Bool)→Bool→Option (List Nat)
 |.text _ _,_,_=>none
 |.place p w,f,e=>if OJ (.place p w) f e=true then none else some []
 |.loop m p ns b,f,e=>if OJ (.loop m p ns b) f e=true then Mp ns 0 (fun c=>O3 (.lp m p ns b) c||f c) e else some []
 |.choice p y n,f,e=>if OJ (.choice p y n) f e=true then(match Mp y 0 f e with
  |some w=>some (0::w)
  |none=>match Mp n 0 f e with
   |some w=>some (1::w)
   |none=>none)else some []
def Mp:j9→Nat→(Nat→Bool)→Bool→Option (List Nat)
 |.nil,_,_,_=>none
 |.cons n r,i,f,e=>match dU n (K1 r f) (K9 r e)with
  |some w=>some (i::w)
  |none=>Mp r (i+1) f e
end
noncomputable def oV:Option (List Nat)→PV
 |none=>.non
 |some l=>.tup (l.map fun i=>PV.int (i:Nat))
mutual
theorem rS:∀(n:Nd)(f:Nat→Bool)(e:Bool)(l:List Nat),dU n f e=some l→l.length≤2 * K_ n
 |.text _ _,_,_,_,h=>by simp[dU]at h
 |.place p w,f,e,l,h=>by
  rw[dU]at h
  split at h
  ·cases h
  ·cases h;simp
 |.loop m p ns b,f,e,l,h=>by
  rw[dU]at h;rw[K_]
  split at h
  ·have:=fM ns 0 _ e l h;omega
  ·cases h;simp
 |.choice p y n,f,e,l,h=>by
  rw[dU]at h;rw[K_]
  split at h
  ·cases q:Mp y 0 f e with
   |some w=>rw[q]at h;cases h;have:=fM y 0 f e w q;rw[List.length_cons];omega
   |none=>
    rw[q]at h;dsimp only at h
    cases q2:Mp n 0 f e with
    |some w=>rw[q2]at h;cases h;have:=fM n 0 f e w q2;rw[List.length_cons];omega
    |none=>rw[q2]at h;cases h
  ·cases h;simp
theorem fM:∀(ns:j9)(i:Nat)(f:Nat→Bool)(e:Bool)(l:List Nat),Mp ns i f e=some l→l.length≤2 * aO ns+1
 |.nil,_,_,_,_,h=>by simp[Mp]at h
 |.cons n r,i,f,e,l,h=>by
  rw[Mp]at h;rw[aO]
  cases q:dU n (K1 r f) (K9 r e)with
  |some w=>rw[q]at h;cases h;have:=rS n _ _ w q;rw[List.length_cons];omega
  |none=>rw[q]at h;have:=fM r (i+1) f e l h;omega
end
theorem dH(o:Option (List Nat)):(oV o).pure=true:=by
 cases o with
 |none=>rfl
 |some l=>
  rw[oV,PV.pure]
  induction l with
  |nil=>rfl
  |cons a r ih=>rw[List.map_cons,aI,ih];rfl
theorem BB{r:j9}{c:Nat}(h:hdT r=some c)(f:Nat→Bool)(e:Bool):K1 r f=(fun d=>decide (d=c))∧K9 r e=false:=by
 cases r with
 |nil=>cases h
 |cons n q=>
  cases n with
  |text d s=>
   cases h
   refine⟨?_,by simp[K9,M7,vd]⟩
   funext d
   simp[K1,bE,M7,fst,vd]
  |_=>cases h
theorem wR{r:j9}{c:Nat}(h:hdT r=some c):(∀d,bE r d=decide (d=c))∧M7 r=false:=by
 cases r with
 |nil=>cases h
 |cons n q=>
  cases n with
  |text d s=>
   cases h
   exact⟨fun d=>by simp[bE,fst,vd],by simp[M7,vd]⟩
  |_=>cases h
theorem zq{A:j9}{c:Nat}(h:RP A c=true):(Qs A=true∧A=.nil)∨∃a,hdT A=some a∧a≠c:=by
 unfold RP at h
 cases A with
 |nil=>exact .inl ⟨rfl,rfl⟩
 |cons n r=>
  right
  simp only[Qs,Bool.false_or]at h
  cases q:hdT (.cons n r)with
  |none=>rw[q]at h;cases h
  |some a=>rw[q]at h;exact⟨a,rfl,of_decide_eq_true h⟩
mutual
theorem BV:∀(n:Nd)(r:j9),Ry n r=true→∀f e,dU n (K1 r f) (K9 r e)=none
 |.text c s,r,_,f,e=>by rw[dU]
 |.place p w,r,h,f,e=>by
  rw[Ry]at h
  cases q:hdT r with
  |none=>rw[q]at h;cases h
  |some c=>
   rw[q]at h;have h:(RL w).contains c=true:=h;obtain⟨b1,b2⟩:=BB q f e;rw[b1,b2,dU,if_pos];rw[OJ,List.all_eq_true];intro d _
   by_cases z:d=c
   ·rw[z,h];simp
   ·simp[z]
 |.loop m p ns b,r,h,f,e=>by
  rw[Ry]at h
  cases q:hdT r with
  |none=>rw[q]at h;cases h
  |some c=>
   cases q2:hdT ns with
   |none=>rw[q,q2]at h;cases h
   |some s=>
    rw[q,q2]at h;simp only[Bool.and_eq_true,decide_eq_true_eq,Bool.not_eq_true']at h;obtain⟨b1,b2⟩:=BB q f e;obtain⟨g1,g2⟩:=wR q2;rw[b1,b2,dU,if_pos]
    ·exact kK ns h.2 0 _ _
    ·rw[OJ,g2,Bool.not_false,Bool.true_and,List.all_eq_true];intro d _
     by_cases z:d=c
     ·rw[z,g1,h.1.2];have:¬ c=s:=fun y=>h.1.1 y.symm;simp[this]
     ·simp[z]
 |.choice p y n,r,h,f,e=>by
  rw[Ry]at h
  cases q:hdT r with
  |none=>rw[q]at h;cases h
  |some c=>
   rw[q]at h;simp only[Bool.and_eq_true,decide_eq_true_eq,Bool.not_eq_true']at h;obtain⟨⟨⟨⟨⟨h1,h2⟩,h3⟩,h4⟩,h5⟩,h6⟩:=h;obtain⟨b1,b2⟩:=BB q f e;rw[b1,b2,dU,if_pos]
   ·rw[kK y h5 0 _ _,kK n h6 0 _ _]
   ·have en:K9 y false=false:=by simp[K9]
    rw[OJ,en,Bool.false_and,Bool.not_false,Bool.and_true,List.all_eq_true];intro d _;rcases zq h1 with⟨i1,rfl⟩|⟨a,a1,a2⟩
    ·rcases zq h2 with⟨i2,rfl⟩|⟨a',X5,a2'⟩
     ·exact absurd rfl h4
     ·obtain⟨g1,g2⟩:=wR X5;simp only[K1,bE,M7,g1,g2]
      by_cases z:d=c
      ·rw[z];have:¬ c=a':=fun y=>a2' y.symm;simp[this]
      ·simp[z]
    ·obtain⟨k1,k2⟩:=wR a1;rcases zq h2 with⟨i2,rfl⟩|⟨a',X5,a2'⟩
     ·simp only[K1,bE,M7,k1,k2]
      by_cases z:d=c
      ·rw[z];have:¬ c=a:=fun y=>a2 y.symm;simp[this]
      ·simp[z]
     ·obtain⟨g1,g2⟩:=wR X5;simp only[K1,k1,k2,g1,g2]
      by_cases z:d=a
      ·have:¬ d=a':=fun y=>h4 (by rw[a1,X5,← z,← y]);simp[this]
      ·simp[z]
theorem kK:∀(ns:j9),Om ns=true→∀i f e,Mp ns i f e=none
 |.nil,_,_,_,_=>by rw[Mp]
 |.cons n r,h,i,f,e=>by rw[Om,Bool.and_eq_true]at h;rw[Mp,BV n r h.1 f e];exact kK r h.2 (i+1) f e
end
def fv(f:Nat→Bool)(e:Bool):PV:=.tup [.str (flt f),.bl e]
theorem iX(f:Nat→Bool)(e:Bool):(fv f e).pure=true:=by simp[fv,PV.pure,aI]
theorem jF(f:Nat→Bool)(e:Bool)(h:List L3.PO):cC h (fv f e)=some (fv f e,h):=cH h (iX f e)
theorem qX(f:Nat→Bool):(flt f).length≤95:=Nat.le_trans (List.length_filter_le _ _) (by decide)
theorem xo{α:Type}(l:List α)(b:α→Bool):dM (l.map fun c=>PV.bl (b c))=some (l.map b):=by
 induction l with
 |nil=>rfl
 |cons a r ih=>rw[List.map_cons];show(dM (r.map fun c=>PV.bl (b c))).map (b a:: ·)=_;rw[ih];rfl
theorem JM{α:Type}(l:List α)(b:α→Bool)(h:List L3.PO):Dk [.lst (l.map fun c=>PV.bl (b c))] h=.ok (.bl (l.any b)) h:=by show(match dM (l.map fun c=>PV.bl (b c))with|some bs=>Res.ok (PV.bl (bs.any id)) h|none=>.bad)=_;rw[xo];show Res.ok (PV.bl ((l.map b).any id)) h=_;rw[List.any_map];rfl
theorem EU{α:Type}(l:List α)(b:α→Bool)(h:List L3.PO):uL [.lst (l.map fun c=>PV.bl (b c))] h=.ok (.bl (l.all b)) h:=by show(match dM (l.map fun c=>PV.bl (b c))with|some bs=>Res.ok (PV.bl (bs.all id)) h|none=>.bad)=_;rw[xo];show Res.ok (PV.bl ((l.map b).all id)) h=_;rw[List.all_map];rfl
theorem vL(k:Nat)(ns:j9)(hw:u9 ns=true)(hk:4 * aO ns+7≤k)(f:Nat→Bool)(e:Bool):F (k+1) .u6 [.tup (b_ ns),fv f e]=.ok (fv (K1 ns f) (K9 ns e)):=by
 obtain⟨j,rfl⟩:∃j,k=j+2:=⟨k - 2,by omega⟩
 have b1:=BC ns hw (j+2) hk;have b2:=iI j (bE ns) f (flt f) (fun d hd=>fR hd);have zn:=cx hw;have c0:∀(g:Nat→Bool)(u:Bool),m_ [PV.str (flt g),PV.bl u] 0=some (.str (flt g)):=fun _ _=>rfl;have c1:∀(g:Nat→Bool)(u:Bool),m_ [PV.str (flt g),PV.bl u] 1=some (.bl u):=fun _ _=>rfl;show aJ (dO (F (j+2))) 2 3 [.tup (b_ ns),fv f e]=_
 cases v:M7 ns with
 |true=>
  rw[v]at b1;have e1:flt (K1 ns f)=flt fun d=>bE ns d||f d:=dJ fun d _=>by rw[K1,v,Bool.true_and]
  have e2:K9 ns e=e:=by rw[K9,v,Bool.true_and]
  rw[fv,fv,e1,e2];simp only[EV,aJ,dO,ai,zn,b1,b2,c0,c1,cW,Ug]
 |false=>
  rw[v]at b1;have e1:flt (K1 ns f)=flt (bE ns):=dJ fun d _=>by rw[K1,v,Bool.false_and,Bool.or_false]
  have e2:K9 ns e=false:=by rw[K9,v,Bool.false_and]
  rw[fv,fv,e1,e2];simp only[EV,aJ,dO,ai,zn,b1,c0,c1,cW,Ug]
theorem ER(k:Nat)(one m:List Nat)(hl:one.length<16777216):F (k+1) .v8 [.str one,.str m]=.ok (.bl (one.any fun c=>m.contains c)):=by
 show aJ (dZ (F k)) 2 2 [.str one,.str m]=_
 have cm:∀h,be bX (gf (F k)) [some (.str m)] (one.map fun c=>PV.str [c]) h=.ok (one.map fun c=>PV.bl (m.contains c)) h:=fun h=>by
  rw[gy (f:=fun p=>match p with|.str [c]=>.bl (m.contains c)|_=>.non) _ (fun p hp=>by obtain⟨c,_,rfl⟩:=List.mem_map.mp hp;simp only[EV,gf,eI]),List.map_map]
  rfl
 have cp:∀a:Option PV,dL [1] [a,some (.str m)]=[some (.str m)]:=fun _=>rfl;have ln:(one.map fun c=>PV.str [c]).length<16777216:=by rw[List.length_map];exact hl
 have fi:∀b:Bool,cW (.bl b) []=.ok (.bl b):=fun _=>rfl;have al:=fun h=>JM one (fun c=>m.contains c) h;simp only[EV,aJ,dZ,ln,cp,cm,al,fi]
theorem xu(g f:Nat→Bool):((flt g).any fun c=>(flt f).contains c)=!aF.all fun c=>!(g c&&f c):=by
 rw[Bool.eq_iff_iff,List.any_eq_true,Bool.not_eq_true',List.all_eq_false];constructor
 ·rintro⟨c,hc,h⟩
  have m:=(List.mem_filter.mp hc)
  rw[fR m.1]at h;exact⟨c,m.1,by rw[m.2,h];decide⟩
 ·rintro⟨c,hc,h⟩
  have:g c=true∧f c=true:=by cases x:g c<;>cases y:f c<;>simp[x,y]at h<;>exact⟨rfl,rfl⟩
  exact⟨c,List.mem_filter.mpr ⟨hc,this.1⟩,by rw[fR hc];exact this.2⟩
theorem Hg(k:Nat)(m:List Nat)(p:PV)(ns:j9)(b:List Nat)(hw:wf (.loop m p ns b)=true)(hk:4 * aO ns+7≤k)(f:Nat→Bool)(e:Bool):F (k+1) .q_ [nd (.loop m p ns b),fv f e]=.ok (.bl (OJ (.loop m p ns b) f e)):=by
 rw[wf,Bool.and_eq_true,Bool.and_eq_true]at hw;have b1:=BC ns hw.1.2 k hk;obtain⟨j,rfl⟩:∃j,k=j+1:=⟨k - 1,by omega⟩
 have fl:=qX (bE ns);have t1:(b.take 1).length≤1:=by rw[List.length_take];omega
 have h1:=ER j (flt (bE ns)++b.take 1) (flt f) (by rw[List.length_append];omega);have zn:=cx hw.1.2;have a3:m_ [PV.str tL,PV.str m,p,PV.tup (b_ ns),PV.str b] 3=some (.tup (b_ ns)):=rfl;have a4:m_ [PV.str tL,PV.str m,p,PV.tup (b_ ns),PV.str b] 4=some (.str b):=rfl;have c0:∀(g:Nat→Bool)(u:Bool),m_ [PV.str (flt g),PV.bl u] 0=some (.str (flt g)):=fun _ _=>rfl;have c1:∀(g:Nat→Bool)(u:Bool),m_ [PV.str (flt g),PV.bl u] 1=some (.bl u):=fun _ _=>rfl;have hb:b.length≤16777216:=Nat.le_trans (hV hw.2) (by decide);have ad:(flt (bE ns)).length+(b.take 1).length≤16777216:=by omega
 have fi:∀b:Bool,cW (.bl b) []=.ok (.bl b):=fun _=>rfl;show aJ (cE (F (j+1))) 2 3 [nd (.loop m p ns b),fv f e]=_
 cases v:M7 ns with
 |true=>
  rw[v]at b1;have ec:OJ (.loop m p ns b) f e=false:=by rw[OJ,v];rfl
  rw[ec,fv];simp only[EV,aJ,cE,nd,a3,ai,zn,b1,c1,fi]
 |false=>
  rw[v]at b1
  have ec:(!(flt (bE ns)++b.take 1).any fun c=>(flt f).contains c)=OJ (.loop m p ns b) f e:=by
   have bs:∀c∈b.take 1,c∈aF:=fun c hc=>mf (eN hw.2) c (List.mem_of_mem_take hc);rw[OJ,v,Bool.not_false,Bool.true_and,List.any_append,xu,Bool.not_or,Bool.not_not];rw[Bool.eq_iff_iff,Bool.and_eq_true,List.all_eq_true,List.all_eq_true,Bool.not_eq_true',List.any_eq_false];constructor
   ·rintro⟨q1,q2⟩ c hc
    have x1:=q1 c hc
    cases y:(b.take 1).contains c with
    |false=>rw[Bool.or_false];exact x1
    |true=>
     have x2:=q2 c (List.contains_iff_mem.mp y);rw[fR hc]at x2
     cases w:f c with
     |false=>rw[Bool.and_false];rfl
     |true=>exact absurd w x2
   ·intro q;refine⟨fun c hc=>?_,fun c hc=>?_⟩
    ·have x:=q c hc
     cases y:bE ns c with
     |false=>rfl
     |true=>rw[y,Bool.true_or]at x;exact x
    ·have x:=q c (bs c hc);rw[fR (bs c hc)];rw[List.contains_iff_mem.mpr hc,Bool.or_true,Bool.true_and]at x;intro z;rw[z]at x;cases x
  rw[← ec,fv];simp only[EV,aJ,cE,nd,a3,a4,ai,zn,b1,c0,c1,yI,hb,ad,h1,fi]
theorem HP(j:Nat)(p:PV)(x y z u:Option PV):∀w,w<5→kh (ja (F (j+4))) (aA (F (j+4) .J5) abl) ag [some (nd (.place p w)),x,y,z,u] []=.ok (.str (RL w)) []
 |0,_=>by kernel_rfl
 |1,_=>by kernel_rfl
 |2,_=>by kernel_rfl
 |3,_=>by kernel_rfl
 |4,_=>by kernel_rfl
 |n+5,h=>absurd h (by omega)
theorem rA(k:Nat)(n:Nd)(hw:wf n=true)(hk:4 * K_ n+9≤k)(f:Nat→Bool)(e:Bool):F (k+1) .J7 [nd n,fv f e]=.ok (.bl (OJ n f e)):=by
 show aJ (cj (F k)) 2 5 [nd n,fv f e]=_;have fi:∀b:Bool,cW (.bl b) []=.ok (.bl b):=fun _=>rfl;have c0:∀(g:Nat→Bool)(u:Bool),m_ [PV.str (flt g),PV.bl u] 0=some (.str (flt g)):=fun _ _=>rfl;have c1:∀(g:Nat→Bool)(u:Bool),m_ [PV.str (flt g),PV.bl u] 1=some (.bl u):=fun _ _=>rfl
 cases n with
 |text c s=>
  have e1:∀h,m9 (.str tT) (.str tP) h=.ok (.bl false) h:=fun h=>by kernel_rfl
  have e2:∀h,m9 (.str tT) (.str tL) h=.ok (.bl false) h:=fun h=>by kernel_rfl
  have e3:∀h,m9 (.str tT) (.str tC) h=.ok (.bl false) h:=fun h=>by kernel_rfl
  have a0:m_ [PV.str tT,PV.str (c::s)] 0=some (.str tT):=rfl;rw[fv];simp only[EV,aJ,cj,nd,a0,e1,e2,e3,fi,OJ]
 |place p w=>
  rw[wf,Bool.and_eq_true]at hw;obtain⟨j,rfl⟩:∃j,k=j+4:=⟨k - 4,by omega⟩
  have ew:=HP j p (some (fv f e)) none none none w (of_decide_eq_true hw.2);have e1:∀h,m9 (.str tP) (.str tP) h=.ok (.bl true) h:=fun h=>by kernel_rfl
  have a0:m_ [PV.str tP,p,PV.str (O5 w)] 0=some (.str tP):=rfl
  have cm:∀h,be bX (iZ (F (j+4))) [some (.str (RL w))] ((flt f).map fun c=>PV.str [c]) h=.ok ((flt f).map fun c=>PV.bl ((RL w).contains c)) h:=fun h=>by
   rw[gy (f:=fun p=>match p with|.str [c]=>.bl ((RL w).contains c)|_=>.non) _ (fun p hp=>by obtain⟨c,_,rfl⟩:=List.mem_map.mp hp;simp only[EV,iZ,eI]),List.map_map]
   rfl
  have fl:=qX f;have ln:((flt f).map fun c=>PV.str [c]).length<16777216:=by rw[List.length_map];omega
  have cp:∀a b c d:Option PV,dL [2] [a,b,some (.str (RL w)),c,d]=[some (.str (RL w))]:=fun _ _ _ _=>rfl;have al:=fun h=>EU (flt f) (fun c=>(RL w).contains c) h
  have ec:((flt f).all fun c=>(RL w).contains c)=OJ (.place p w) f e:=by
   rw[OJ,Bool.eq_iff_iff,List.all_eq_true,List.all_eq_true];constructor
   ·intro q c hc
    cases z:f c with
    |false=>rfl
    |true=>rw[q c (List.mem_filter.mpr ⟨hc,z⟩)];rfl
   ·intro q c hc;obtain⟨m1,m2⟩:=List.mem_filter.mp hc;have x:=q c m1;rw[m2,Bool.true_and,Bool.not_not]at x;exact x
  have e2:aC 2 (kh (ja (F (j+4))) (aA (F (j+4) .J5) abl) ag) [some (nd (.place p w)),some (fv f e),none,none,none] []=.nx [some (nd (.place p w)),some (fv f e),some (.str (RL w)),none,none] []:=bj ew
  have bd:cj (F (j+4)) [some (nd (.place p w)),some (fv f e),none,none,none] []=.rt (.bl (OJ (.place p w) f e)) []:=by
   have go:∀g1 g2:Sx,ak (v9 aaW (ak (aC 2 (kh (ja (F (j+4))) (aA (F (j+4) .J5) abl) ag)) g1) aW) g2 [some (nd (.place p w)),some (fv f e),none,none,none] []=ak g1 g2 [some (nd (.place p w)),some (fv f e),some (.str (RL w)),none,none] []:=fun g1 g2=>by
    have q:v9 aaW (ak (aC 2 (kh (ja (F (j+4))) (aA (F (j+4) .J5) abl) ag)) g1) aW [some (nd (.place p w)),some (fv f e),none,none,none] []=g1 [some (nd (.place p w)),some (fv f e),some (.str (RL w)),none,none] []:=by rw[← aD (g:=g1) e2];rw[nd];generalize ak (aC 2 (kh (ja (F (j+4))) (aA (F (j+4) .J5) abl) ag)) g1=gg;simp only[EV,a0,e1]
    unfold ak at q ⊢;rw[q]
   unfold cj;rw[go];refine jr ?_;rw[fv];simp only[EV,c0,ln,cp,cm,al,ec]
  exact dj (f:=cj (F (j+4))) (np:=2) (n:=5) rfl bd rfl
 |loop m p ns b=>
  rw[K_]at hk;obtain⟨j,rfl⟩:∃j,k=j+1:=⟨k - 1,by omega⟩
  have ic:=Hg j m p ns b hw (by omega) f e;have zn:=jG hw;have zf:=jF f e;have e1:∀h,m9 (.str tL) (.str tP) h=.ok (.bl false) h:=fun h=>by kernel_rfl
  have e2:∀h,m9 (.str tL) (.str tL) h=.ok (.bl true) h:=fun h=>by kernel_rfl
  have a0:m_ [PV.str tL,PV.str m,p,PV.tup (b_ ns),PV.str b] 0=some (.str tL):=rfl;rw[fv]at ic zf ⊢;rw[nd]at ic zn ⊢;simp only[EV,aJ,cj,a0,e1,e2,ai,zn,zf,ic,fi]
 |choice p y n=>
  rw[wf,Bool.and_eq_true,Bool.and_eq_true]at hw;rw[K_]at hk;obtain⟨j,rfl⟩:∃j,k=j+1:=⟨k - 1,by omega⟩
  have by_:=vL j y hw.1.2 (by omega) f e;have X4:=vL j n hw.2 (by omega) f e;have h1:=ER j (flt (K1 y f)) (flt (K1 n f)) (by have:=qX (K1 y f);omega);have z1:=fun h=>cx (ns:=y) hw.1.2 h;have z2:=fun h=>cx (ns:=n) hw.2 h;have zf:=jF f e;have e1:∀h,m9 (.str tC) (.str tP) h=.ok (.bl false) h:=fun h=>by kernel_rfl
  have e2:∀h,m9 (.str tC) (.str tL) h=.ok (.bl false) h:=fun h=>by kernel_rfl
  have e3:∀h,m9 (.str tC) (.str tC) h=.ok (.bl true) h:=fun h=>by kernel_rfl
  have a0:m_ [PV.str tC,p,PV.tup (b_ y),PV.tup (b_ n)] 0=some (.str tC):=rfl;have a2:m_ [PV.str tC,p,PV.tup (b_ y),PV.tup (b_ n)] 2=some (.tup (b_ y)):=rfl;have a3:m_ [PV.str tC,p,PV.tup (b_ y),PV.tup (b_ n)] 3=some (.tup (b_ n)):=rfl;rw[xu]at h1;rw[OJ];rw[fv]at by_ X4 zf ⊢;rw[fv]at by_ X4;generalize(aF.all fun c=>!(K1 y f c&&K1 n f c))=A at*
  cases A with
  |false=>simp only[EV,aJ,cj,nd,a0,a2,a3,e1,e2,e3,ai,z1,z2,zf,by_,X4,c0,c1,h1,fi]
  |true=>
   generalize K9 y e=P at*
   cases P<;>simp only[EV,aJ,cj,nd,a0,a2,a3,e1,e2,e3,ai,z1,z2,zf,by_,X4,c0,c1,h1,fi]
def Qk:j9→(Nat→Bool)→Bool→List PV
 |.nil,_,_=> []
 |.cons _ r,f,e=>fv (K1 r f) (K9 r e)::Qk r f e
theorem wY:∀(ns:j9)(f:Nat→Bool)(e:Bool),(Qk ns f e).length=(b_ ns).length
 |.nil,_,_=>by rw[Qk,b_]
 |.cons n r,f,e=>by rw[Qk,b_,List.length_cons,List.length_cons,wY r]
theorem tw:∀(ns:j9)(f:Nat→Bool)(e:Bool),aI (Qk ns f e)=true
 |.nil,_,_=>by rw[Qk];rfl
 |.cons n r,f,e=>by rw[Qk,aI,iX,tw r];rfl
theorem Hw(f:Nat→Bool)(e:Bool):K1 .nil f=f∧K9 .nil e=e:=⟨by funext c;simp[K1,bE,M7],by simp[K9,M7]⟩
theorem Ee(n:Nd)(r:j9)(f:Nat→Bool)(e:Bool):K1 (.cons n .nil) (K1 r f)=K1 (.cons n r) f∧K9 (.cons n .nil) (K9 r e)=K9 (.cons n r) e:=by
 refine⟨?_,by simp[K9,M7,Bool.and_assoc]⟩
 funext c
 simp only[K1,bE,M7]
 cases vd n<;>cases fst n c<;>simp
theorem Jc(C:CC):∀(ρ:Ev)(h:List L3.PO)(ρ2:Ev)(h2:List L3.PO),cI C ρ h≠.bk ρ2 h2:=fun ρ h ρ2 h2 e=>by
 unfold cI ak at e
 cases q:bY (cM cz ba (ae 2) aaA) ρ h with
 |nx r1 h1=>
  rw[q]at e;dsimp only at e;unfold aC at e
  cases q2:aA (C .u6) (aa (cN au aaM) aaA) r1 h1<;>rw[q2]at e<;>cases e
 |bk r1 h1=>
  unfold bY at q
  cases q2:cM cz ba (ae 2) aaA ρ h<;>rw[q2]at q<;>cases q
 |_=>rw[q]at e;cases e
theorem wZ(k:Nat)(x0:Option PV)(f:Nat→Bool)(e:Bool):∀(ns:j9),u9 ns=true→4 * aO ns+8≤k→(b_ ns).length≤16777216→∀x4:Option PV,∃y4,aZ (n8 4) (cI (F k)) (b_ ns).reverse [x0,some (fv f e),some (.ref 0),some (fv f e),x4] [.lst []]=.nx [x0,some (fv f e),some (.ref 0),some (fv (K1 ns f) (K9 ns e)),y4] [.lst (Qk ns f e).reverse]
 |.nil,_,_,_,x4=>⟨x4,by obtain⟨b1,b2⟩:=Hw f e;rw[b1,b2,b_,Qk];rfl⟩
 |.cons n r,hw,hk,hl,x4=>by
  rw[u9,Bool.and_eq_true]at hw;rw[aO]at hk;rw[b_,List.length_cons]at hl;obtain⟨y4,ih⟩:=wZ k x0 f e r hw.2 (by omega) (by omega) x4;refine⟨some (nd n),?_⟩;rw[b_,List.reverse_cons,og _ _ ih (Jc (F k))];obtain⟨j,rfl⟩:∃j,k=j+1:=⟨k - 1,by omega⟩
  have w1:u9 (.cons n .nil)=true:=by rw[u9,u9,hw.1];rfl
  have d1:aO (.cons n .nil)=K_ n:=by rw[aO,aO];omega
  have bg:=vL j (.cons n .nil) w1 (by rw[d1];omega) (K1 r f) (K9 r e);obtain⟨b1,b2⟩:=Ee n r f e;rw[b1,b2]at bg;have n1:b_ (.cons n .nil)=[nd n]:=by rw[b_,b_]
  rw[n1]at bg;have z1:∀h,cC h (.tup [nd n])=some (.tup [nd n],h):=fun h=>jX h (by rw[aI,gq n hw.1];rfl);have zf:=jF (K1 r f) (K9 r e);have dr:∀h,ay h (nd n)=nd n:=fun h=>bB h (gq n hw.1);have df:∀h,ay h (fv (K1 r f) (K9 r e))=fv (K1 r f) (K9 r e):=fun h=>bB h (iX _ _);have fl:=wY r f e;have hlr:(Qk r f e).reverse.length<16777216:=by rw[List.length_reverse,fl];omega
  have ap:=Hx;have li:∀xs,cz [.lst xs] (.ref 0)=true:=fun _=>rfl;have d0:∀xs:List PV,ay [.lst xs] (.ref 0)=.ref 0:=fun xs=>rfl;rw[Qk,List.reverse_cons];refine(cu (ρ2:=[x0,some (fv f e),some (.ref 0),some (fv (K1 (.cons n r) f) (K9 (.cons n r) e)),some (nd n)]) (h2:=[.lst ((Qk r f e).reverse++ [fv (K1 r f) (K9 r e)])]) rfl ?_).trans rfl;generalize fv (K1 r f) (K9 r e)=V at*;generalize fv (K1 (.cons n r) f) (K9 (.cons n r) e)=W at*;generalize fv f e=U at*;generalize nd n=N at*;show cI (F (j+1)) [x0,some U,some (.ref 0),some V,some N] [.lst (Qk r f e).reverse]=_;simp only[EV,cI,d0,li,df,dr,ap,hlr,ai,z1,zf,bg]
theorem Jq(k:Nat)(ns:j9)(hw:u9 ns=true)(hk:4 * aO ns+8≤k)(hl:(b_ ns).length≤16777216)(f:Nat→Bool)(e:Bool):F (k+1) .G9 [.tup (b_ ns),fv f e]=.ok (.lst (Qk ns f e)):=by
 obtain⟨y4,lp⟩:=wZ k (some (.tup (b_ ns))) f e ns hw hk hl none;have e2:aC 2 abn [some (.tup (b_ ns)),some (fv f e),none,none,none] []=.nx [some (.tup (b_ ns)),some (fv f e),some (.ref 0),none,none] [.lst []]:=rfl;have e3:aC 3 (ae 1) [some (.tup (b_ ns)),some (fv f e),some (.ref 0),none,none] [.lst []]=.nx [some (.tup (b_ ns)),some (fv f e),some (.ref 0),some (fv f e),none] [.lst []]:=rfl;have e4:dD (vQ aas) (n8 4) (cI (F k)) [some (.tup (b_ ns)),some (fv f e),some (.ref 0),some (fv f e),none] [.lst []]=.nx [some (.tup (b_ ns)),some (fv f e),some (.ref 0),some (fv (K1 ns f) (K9 ns e)),y4] [.lst (Qk ns f e).reverse]:=lp
 have bd:eM (F k) [some (.tup (b_ ns)),some (fv f e),none,none,none] []=.rt (.lst (Qk ns f e)) [.lst (Qk ns f e).reverse]:=by
  unfold eM;rw[aD e2,aD e3,aD e4]
  have lr:wL [.ref 0] [.lst (Qk ns f e).reverse]=.ok (.lst (Qk ns f e)) [.lst (Qk ns f e).reverse]:=by show Res.ok (PV.lst (Qk ns f e).reverse.reverse) _=_;rw[List.reverse_reverse]
  have d0:∀xs:List PV,ay [.lst xs] (.ref 0)=.ref 0:=fun xs=>rfl;simp only[EV,d0,lr]
 exact dj (f:=eM (F k)) (np:=2) (n:=5) (ps:=[.tup (b_ ns),fv f e]) rfl bd (bR (by rw[PV.pure];exact tw ns f e))
def UI(k:Nat):j9→Prop
 |.nil=>True
 |.cons n r=>(∀f e,F k .w6 [nd n,fv f e]=.ok (oV (dU n f e)))∧UI k r
theorem kZ(l:List Nat):fh (oV (some l))=false:=rfl
theorem BJ(i:Nat)(l:List Nat)(hl:l.length≤1000)(h:List L3.PO):aT (.tup [.int (i:Nat)]) (oV (some l)) h=.ok (oV (some (i::l))) h:=by show aT (.tup [.int (i:Nat)]) (.tup (l.map fun i=>PV.int (i:Nat))) h=_;rw[vP,if_pos ⟨rfl,by rw[szl,List.length_map];simp;omega⟩];rfl
theorem vX(k:Nat)(x0 x1:Option PV)(FL:List PV)(f:Nat→Bool)(e:Bool):∀(ns:j9)(i:Nat),u9 ns=true→aO ns≤100→UI k ns→FL.drop i=Qk ns f e→∀x3 x4 x5:Option PV,∃y3 y4 y5,
  aZ (Nm 2 aa5) (bL (F k)) (R8 i (b_ ns)) [x0,x1,some (.lst FL),x3,x4,x5] []=match Mp ns i f e with|none=>.nx [x0,x1,some (.lst FL),y3,y4,y5] []|some l=>.rt (oV (some l)) []
 |.nil,i,_,_,_,_,x3,x4,x5=>⟨x3,x4,x5,by rw[Mp,b_];rfl⟩
 |.cons n r,i,hw,hd,hu,hF,x3,x4,x5=>by
  rw[u9,Bool.and_eq_true]at hw;rw[aO]at hd;rw[Qk]at hF
  have hi:i<FL.length:=by
   rcases Nat.lt_or_ge i FL.length with q|q
   ·exact q
   ·rw[List.drop_eq_nil_of_le q]at hF;cases hF
  have e0:FL[i]? =some (fv (K1 r f) (K9 r e)):=by rw[← List.head?_drop,hF];rfl
  have ax:m_ FL (i:Int)=some (fv (K1 r f) (K9 r e)):=cU (by omega) (by simpa using e0);have df:∀h,ay h (fv (K1 r f) (K9 r e))=fv (K1 r f) (K9 r e):=fun h=>bB h (iX _ _);have dr:∀h,ay h (nd n)=nd n:=fun h=>bB h (gq n hw.1);have zn:=jG hw.1;have zf:=jF (K1 r f) (K9 r e);have un:=hu.1 (K1 r f) (K9 r e);have hg:Nm 2 aa5 (.tup [.int (i:Nat),nd n]) [x0,x1,some (.lst FL),x3,x4,x5]=some [x0,x1,some (.lst FL),some (.int (i:Nat)),some (nd n),x5]:=rfl;have doV:∀h,ay h (oV (dU n (K1 r f) (K9 r e)))=oV (dU n (K1 r f) (K9 r e)):=fun h=>bB h (dH _)
  have e5:aC 5 (aA (F k .w6) (aa (ae 4) (aa (c2 d7 (ae 2) (ae 3)) ag))) [x0,x1,some (.lst FL),some (.int (i:Nat)),some (nd n),x5] []=.nx [x0,x1,some (.lst FL),some (.int (i:Nat)),some (nd n),some (oV (dU n (K1 r f) (K9 r e)))] []:=bj (by generalize fv (K1 r f) (K9 r e)=V at*;generalize nd n=N at*;simp only[EV,dr,ax,df,ai,zn,zf,un])
  rw[b_,R8,Mp]
  cases q:dU n (K1 r f) (K9 r e)with
  |some w=>rw[q]at e5 doV;refine⟨none,none,none,?_⟩;refine gr hg ?_;unfold bL;rw[aD e5];have wl:=rS n _ _ w q;have ad:=fun h=>BJ i w (by omega) h;have nn:=kZ w;generalize oV (some w)=V at*;simp only[EV,doV,nn,ad]
  |none=>rw[q]at e5;obtain⟨y3,y4,y5,ih⟩:=vX k x0 x1 FL f e r (i+1) hw.2 (by omega) hu.2 (by rw[← List.drop_drop,hF];rfl) (some (.int (i:Nat))) (some (nd n)) (some .non);refine⟨y3,y4,y5,?_⟩;rw[← ih];refine cu hg ?_;unfold bL;rw[aD e5];have nn:fh .non=true:=rfl;simp only[EV,oV,nn]
theorem vW(k:Nat)(ns:j9)(hw:u9 ns=true)(hd:aO ns≤100)(hk:4 * aO ns+9≤k)(hl:(b_ ns).length≤16777216)(hu:UI k ns)(f:Nat→Bool)(e:Bool):F (k+1) .j7 [.tup (b_ ns),fv f e]=.ok (oV (Mp ns 0 f e)):=by
 obtain⟨j,rfl⟩:∃j,k=j+1:=⟨k - 1,by omega⟩
 have fo:=Jq j ns hw (by omega) hl f e;have zn:=cx hw;have zf:=jF f e;have df:∀h,ay h (fv f e)=fv f e:=fun h=>bB h (iX _ _);obtain⟨y3,y4,y5,lp⟩:=vX (j+1) (some (.tup (b_ ns))) (some (fv f e)) (Qk ns f e) f e ns 0 hw hd hu rfl none none none
 have e2:aC 2 (aA (F (j+1) .G9) aaB) [some (.tup (b_ ns)),some (fv f e),none,none,none,none] []=.nx [some (.tup (b_ ns)),some (fv f e),some (.lst (Qk ns f e)),none,none,none] []:=bj (by generalize fv f e=V at*;simp only[EV,df,ai,zn,zf,fo])
 have e3:∀res,aZ (Nm 2 aa5) (bL (F (j+1))) (R8 0 (b_ ns)) [some (.tup (b_ ns)),some (fv f e),some (.lst (Qk ns f e)),none,none,none] []=res→dD (iO aas) (Nm 2 aa5) (bL (F (j+1))) [some (.tup (b_ ns)),some (fv f e),some (.lst (Qk ns f e)),none,none,none] []=res:=fun res q=>q
 cases q:Mp ns 0 f e with
 |some l=>
  rw[q]at lp
  have bd:bu (F (j+1)) [some (.tup (b_ ns)),some (fv f e),none,none,none,none] []=.rt (oV (some l)) []:=by unfold bu;rw[aD e2];exact jr (e3 _ lp)
  exact dj (f:=bu (F (j+1))) (np:=2) (n:=6) (ps:=[.tup (b_ ns),fv f e]) rfl bd (bR (dH _))
 |none=>
  rw[q]at lp
  have bd:bu (F (j+1)) [some (.tup (b_ ns)),some (fv f e),none,none,none,none] []=.rt .non []:=by unfold bu;rw[aD e2,aD (e3 _ lp)];rfl
  exact dj (f:=bu (F (j+1))) (np:=2) (n:=6) (ps:=[.tup (b_ ns),fv f e]) rfl bd rfl
theorem JI(k:Nat)(m:List Nat)(p:PV)(ns:j9)(b:List Nat)(hw:wf (.loop m p ns b)=true)(hk:4 * aO ns+7≤k)(f:Nat→Bool)(e:Bool):F (k+1) .o_ [nd (.loop m p ns b),fv f e]=.ok (fv (fun c=>O3 (.lp m p ns b) c||f c) e):=by
 rw[wf,Bool.and_eq_true,Bool.and_eq_true]at hw;have b1:=BC ns hw.1.2 k hk;obtain⟨j,rfl⟩:∃j,k=j+2:=⟨k - 2,by omega⟩
 have zn:=cx hw.1.2;have a3:m_ [PV.str tL,PV.str m,p,PV.tup (b_ ns),PV.str b] 3=some (.tup (b_ ns)):=rfl;have a4:m_ [PV.str tL,PV.str m,p,PV.tup (b_ ns),PV.str b] 4=some (.str b):=rfl;have c0:∀(g:Nat→Bool)(u:Bool),m_ [PV.str (flt g),PV.bl u] 0=some (.str (flt g)):=fun _ _=>rfl;have c1:∀(g:Nat→Bool)(u:Bool),m_ [PV.str (flt g),PV.bl u] 1=some (.bl u):=fun _ _=>rfl;have hb:b.length≤16777216:=Nat.le_trans (hV hw.2) (by decide);show aJ (cF (F (j+2))) 2 3 [nd (.loop m p ns b),fv f e]=_
 cases b with
 |nil=>
  have b2:=iI j f (bE ns) (flt (bE ns)) (fun d hd=>fR hd);have e1:(flt fun c=>O3 (.lp m p ns []) c||f c)=flt fun d=>f d||bE ns d:=dJ fun d _=>by rw[O3,if_pos rfl,Bool.or_comm]
  have tr:∀h,qC h (.str [])=some false:=fun _=>rfl;rw[fv,fv,e1];simp only[EV,aJ,cF,nd,a3,a4,tr,ai,zn,b1,c0,c1,b2,cW,Ug]
 |cons x t=>
  have b2:=iI j f (fun d=>((x::t).take 1).contains d) ((x::t).take 1) (fun d hd=>rfl);have e1:(flt fun c=>O3 (.lp m p ns (x::t)) c||f c)=flt fun d=>f d||((x::t).take 1).contains d:=dJ fun d _=>by rw[O3,if_neg (by simp),Bool.or_comm]
  have tr:∀h,qC h (.str (x::t))=some true:=fun h=>by rw[HV,if_pos (by rw[szl];exact hb)];rfl
  rw[List.length_cons]at hb;rw[fv,fv,e1];generalize ht:(x::t).take 1=T1 at*;simp only[EV,aJ,cF,nd,a4,tr,hb,yI,ht,c0,c1,ai,b2,cW,Ug]
mutual
theorem HU:∀n:Nd,wf n=true→Qo n≤16777216→K_ n≤100→∀k,4 * K_ n+11≤k→∀f e,F k .w6 [nd n,fv f e]=.ok (oV (dU n f e))
 |.text c s,hw,RX,hd,k,hk,f,e=>by
  obtain⟨j,rfl⟩:∃j,k=j+2:=⟨k - 2,by omega⟩
  have ic:=rA j (.text c s) hw (by omega) f e;have zn:=jG hw;have zf:=jF f e;have e2:∀h,m9 (.str tT) (.str tL) h=.ok (.bl false) h:=fun h=>by kernel_rfl
  have e3:∀h,m9 (.str tT) (.str tC) h=.ok (.bl false) h:=fun h=>by kernel_rfl
  have a0:m_ [PV.str tT,PV.str (c::s)] 0=some (.str tT):=rfl;show aJ (aM (F (j+1))) 2 5 [nd (.text c s),fv f e]=_;rw[dU];rw[OJ]at ic;rw[fv]at ic zf ⊢;rw[nd]at ic zn ⊢;simp only[EV,aJ,aM,a0,e2,e3,ai,zn,zf,ic,oV];rfl
 |.place p w,hw,RX,hd,k,hk,f,e=>by
  obtain⟨j,rfl⟩:∃j,k=j+2:=⟨k - 2,by omega⟩
  have ic:=rA j (.place p w) hw (by omega) f e;have zn:=jG hw;have zf:=jF f e;have e2:∀h,m9 (.str tP) (.str tL) h=.ok (.bl false) h:=fun h=>by kernel_rfl
  have e3:∀h,m9 (.str tP) (.str tC) h=.ok (.bl false) h:=fun h=>by kernel_rfl
  have a0:m_ [PV.str tP,p,PV.str (O5 w)] 0=some (.str tP):=rfl;show aJ (aM (F (j+1))) 2 5 [nd (.place p w),fv f e]=_;rw[dU];rw[fv]at ic zf ⊢;rw[nd]at ic zn ⊢
  cases q:OJ (.place p w) f e with
  |true=>rw[q]at ic;simp only[EV,aJ,aM,a0,e2,e3,ai,zn,zf,ic,oV];rfl
  |false=>rw[q]at ic;simp only[EV,aJ,aM,ai,zn,zf,ic,oV];rfl
 |.loop m p ns b,hw,RX,hd,k,hk,f,e=>by
  rw[K_]at hk hd;rw[Qo]at RX;obtain⟨j,rfl⟩:∃j,k=j+2:=⟨k - 2,by omega⟩
  have ic:=rA j (.loop m p ns b) hw (by rw[K_];omega) f e;have br:=JI j m p ns b hw (by omega) f e;have zn:=jG hw;have zf:=jF f e;have N8:=hw;rw[wf,Bool.and_eq_true,Bool.and_eq_true]at N8;have ua:=vW j ns N8.1.2 (by omega) (by omega) (Nat.le_trans (iw ns) RX) (ng ns N8.1.2 RX (by omega) j (by omega)) (fun c=>O3 (.lp m p ns b) c||f c) e;have z1:=cx N8.1.2;have z2:=jF (fun c=>O3 (.lp m p ns b) c||f c) e;have e2:∀h,m9 (.str tL) (.str tL) h=.ok (.bl true) h:=fun h=>by kernel_rfl
  have a0:m_ [PV.str tL,PV.str m,p,PV.tup (b_ ns),PV.str b] 0=some (.str tL):=rfl;have a3:m_ [PV.str tL,PV.str m,p,PV.tup (b_ ns),PV.str b] 3=some (.tup (b_ ns)):=rfl;have fo:∀o,cW (oV o) []=.ok (oV o):=fun o=>bR (dH o);show aJ (aM (F (j+1))) 2 5 [nd (.loop m p ns b),fv f e]=_;rw[dU];have df:∀h,ay h (fv f e)=fv f e:=fun h=>bB h (iX _ _);generalize fv (fun c=>O3 (.lp m p ns b) c||f c) e=V at*;generalize fv f e=U at*;rw[nd]at ic br zn ⊢
  cases q:OJ (.loop m p ns b) f e with
  |true=>rw[q]at ic;simp only[EV,aJ,aM,df,a0,a3,e2,ai,zn,zf,z1,z2,ic,br,ua,fo]
  |false=>rw[q]at ic;simp only[EV,aJ,aM,df,ai,zn,zf,ic,oV];rfl
 |.choice p y n,hw,RX,hd,k,hk,f,e=>by
  rw[K_]at hk hd;rw[Qo]at RX;obtain⟨j,rfl⟩:∃j,k=j+2:=⟨k - 2,by omega⟩
  have ic:=rA j (.choice p y n) hw (by rw[K_];omega) f e;have zn:=jG hw;have zf:=jF f e;have N8:=hw;rw[wf,Bool.and_eq_true,Bool.and_eq_true]at N8;have wy:dS y≤16777216:=by omega
  have wn:dS n≤16777216:=by omega
  have uy:=vW j y N8.1.2 (by omega) (by omega) (Nat.le_trans (iw y) wy) (ng y N8.1.2 wy (by omega) j (by omega)) f e;have un:=vW j n N8.2 (by omega) (by omega) (Nat.le_trans (iw n) wn) (ng n N8.2 wn (by omega) j (by omega)) f e;have z1:=fun h=>cx (ns:=y) N8.1.2 h;have z2:=fun h=>cx (ns:=n) N8.2 h;have e2:∀h,m9 (.str tC) (.str tL) h=.ok (.bl false) h:=fun h=>by kernel_rfl
  have e3:∀h,m9 (.str tC) (.str tC) h=.ok (.bl true) h:=fun h=>by kernel_rfl
  have a0:m_ [PV.str tC,p,PV.tup (b_ y),PV.tup (b_ n)] 0=some (.str tC):=rfl;have a2:m_ [PV.str tC,p,PV.tup (b_ y),PV.tup (b_ n)] 2=some (.tup (b_ y)):=rfl;have a3:m_ [PV.str tC,p,PV.tup (b_ y),PV.tup (b_ n)] 3=some (.tup (b_ n)):=rfl;have df:∀h,ay h (fv f e)=fv f e:=fun h=>bB h (iX _ _);show aJ (aM (F (j+1))) 2 5 [nd (.choice p y n),fv f e]=_;rw[dU]
  cases q:OJ (.choice p y n) f e with
  |false=>rw[q]at ic;generalize fv f e=U at*;rw[nd]at ic zn ⊢;simp only[EV,aJ,aM,df,ai,zn,zf,ic,oV];rfl
  |true=>
   rw[q]at ic
   have turn:∀(i:Nat)(A:j9)(x4:Option PV),(∀h,cC h (.tup (b_ A))=some (.tup (b_ A),h))→F (j+1) .j7 [.tup (b_ A),fv f e]=.ok (oV (Mp A 0 f e))→(∀l,Mp A 0 f e=some l→l.length≤1000)→
     bH (F (j+1)) [some (nd (.choice p y n)),some (fv f e),some (.int (i:Nat)),some (.tup (b_ A)),x4] []=match Mp A 0 f e with|some l=>.rt (oV (some (i::l))) []|none=>.nx [some (nd (.choice p y n)),some (fv f e),some (.int (i:Nat)),some (.tup (b_ A)),some .non] []:=fun i A x4 zA uA lA=>by
    have e4:aC 4 (aA (F (j+1) .j7) (aa (ae 3) aal)) [some (nd (.choice p y n)),some (fv f e),some (.int (i:Nat)),some (.tup (b_ A)),x4] []=.nx [some (nd (.choice p y n)),some (fv f e),some (.int (i:Nat)),some (.tup (b_ A)),some (oV (Mp A 0 f e))] []:=bj (by generalize fv f e=U at*;simp only[EV,df,ai,zA,zf,uA])
    unfold bH;rw[aD e4]
    cases r:Mp A 0 f e with
    |some l=>have ad:=fun h=>BJ i l (lA l r) h;have nn:=kZ l;have dv:∀h,ay h (oV (some l))=oV (some l):=fun h=>bB h (dH _);generalize oV (some l)=V at*;simp only[EV,dv,nn,ad]
    |none=>have nn:fh .non=true:=rfl;simp only[EV,oV,nn]
   have ly:∀l,Mp y 0 f e=some l→l.length≤1000:=fun l h=>by have:=fM y 0 f e l h;omega
   have ln:∀l,Mp n 0 f e=some l→l.length≤1000:=fun l h=>by have:=fM n 0 f e l h;omega
   have t0:=turn 0 y none z1 uy ly;have t1:=turn 1 n (some .non) z2 un ln
   have go:∀res,dD (iO (aa (cN au (aa aaE aar)) ag)) abv (bH (F (j+1))) [some (nd (.choice p y n)),some (fv f e),none,none,none] []=res→ak (v9 (eP (ci (aA (F (j+1) .J7) aaB))) (aP aa1) aW) (ak (v9 aaV (aP (aA (F (j+1) .j7) (aa abr (aa (aA (F (j+1) .o_) aaB) ag)))) aW) (v9 aaX (dD (iO (aa (cN au (aa aaE aar)) ag)) abv (bH (F (j+1)))) aW)) [some (nd (.choice p y n)),some (fv f e),none,none,none] []=res:=fun res h=>by generalize dD (iO (aa (cN au (aa aaE aar)) ag)) abv (bH (F (j+1)))=G at*;generalize fv f e=U at*;rw[nd]at h ic zn ⊢;simp only[EV,df,ai,zn,zf,ic,a0,e2,e3];exact h
   have it:∀res,aZ abv (bH (F (j+1))) [.tup [.int ((0:Nat):Int),.tup (b_ y)],.tup [.int ((1:Nat):Int),.tup (b_ n)]] [some (nd (.choice p y n)),some (fv f e),none,none,none] []=res→dD (iO (aa (cN au (aa aaE aar)) ag)) abv (bH (F (j+1))) [some (nd (.choice p y n)),some (fv f e),none,none,none] []=res:=fun res h=>by rw[nd]at h ⊢;exact h
   have as:∀{a b c d:Sx}{ρ:Ev}{h:List L3.PO},ak a (ak b (ak c d)) ρ h=ak (ak a (ak b c)) d ρ h:=fun{a b c d ρ h}=>by
    unfold ak
    cases a ρ h with
    |nx r1 h1=>
     dsimp only
     cases b r1 h1<;>rfl
    |_=>rfl
   cases r:Mp y 0 f e with
   |some l=>
    rw[r]at t0
    have bd:aM (F (j+1)) [some (nd (.choice p y n)),some (fv f e),none,none,none] []=.rt (oV (some (0::l))) []:=by unfold aM;rw[as];exact jr (go _ (it _ (gr rfl t0)))
    exact dj (f:=aM (F (j+1))) (np:=2) (n:=5) (ps:=[nd (.choice p y n),fv f e]) rfl bd (bR (dH _))
   |none=>
    rw[r]at t0
    cases r2:Mp n 0 f e with
    |some l=>
     rw[r2]at t1
     have bd:aM (F (j+1)) [some (nd (.choice p y n)),some (fv f e),none,none,none] []=.rt (oV (some (1::l))) []:=by unfold aM;rw[as];exact jr (go _ (it _ ((cu rfl t0).trans (gr rfl t1))))
     exact dj (f:=aM (F (j+1))) (np:=2) (n:=5) (ps:=[nd (.choice p y n),fv f e]) rfl bd (bR (dH _))
    |none=>
     rw[r2]at t1
     have bd:aM (F (j+1)) [some (nd (.choice p y n)),some (fv f e),none,none,none] []=.rt .non []:=by unfold aM;rw[as,aD (go _ (it _ ((cu rfl t0).trans ((cu rfl t1).trans rfl))))];rfl
     exact dj (f:=aM (F (j+1))) (np:=2) (n:=5) (ps:=[nd (.choice p y n),fv f e]) rfl bd rfl
theorem ng:∀ns:j9,u9 ns=true→dS ns≤16777216→aO ns≤100→∀k,4 * aO ns+11≤k→UI k ns
 |.nil,_,_,_,_,_=>True.intro
 |.cons n r,h,RX,hd,k,hk=>by rw[u9,Bool.and_eq_true]at h;rw[aO]at hk hd;rw[dS]at RX;exact⟨fun f e=>HU n h.1 (by omega) (by omega) k (by omega) f e,ng r h.2 (by omega) (by omega) k (by omega)⟩
end
theorem uc(k:Nat)(ns:j9)(hw:u9 ns=true)(RX:dS ns≤16777216)(hd:aO ns≤100)(hk:4 * aO ns+13≤k):F k .unclear [.tup (b_ ns)]=.ok (oV (Mp ns 0 (fun _=>false) true)):=by
 obtain⟨j,rfl⟩:∃j,k=j+2:=⟨k - 2,by omega⟩
 have ua:=vW j ns hw hd (by omega) (Nat.le_trans (iw ns) RX) (ng ns hw RX hd j (by omega)) (fun _=>false) true
 have e0:PV.tup jl=fv (fun _=>false) true:=by
  rw[fv];have:flt (fun _=>false)=[]:=by decide
  rw[this];rfl
 have zn:=cx hw;have zf:=jF (fun _=>false) true;have fo:∀o,cW (oV o) []=.ok (oV o):=fun o=>bR (dH o);show aJ (iJ (F (j+1))) 1 1 [.tup (b_ ns)]=_;rw[← e0]at ua zf;simp only[EV,aJ,iJ,ai,zn,zf,ua,fo]
def WN(k B:Nat):Nd→Prop
 |.loop m p us b=>∀tr:List Ti,(∀x∈tr,oP B x)→tr.length+K_ (.loop m p us b)≤300→F k .q8 [.tup (b_ us),.lst (tr.map tv),nd (.loop m p us b)]=.ok (oV (Mp us 0 (fun c=>O3 (.lp m p us b) c||fW tr.reverse c) (fZ tr.reverse)))
 |.choice p y n=>∀tr:List Ti,(∀x∈tr,oP B x)→tr.length+K_ (.choice p y n)≤300→F k .q8 [.tup (b_ y),.lst (tr.map tv),.non]=.ok (oV (Mp y 0 (fW tr.reverse) (fZ tr.reverse)))∧F k .q8 [.tup (b_ n),.lst (tr.map tv),.non]=.ok (oV (Mp n 0 (fW tr.reverse) (fZ tr.reverse)))
 |_=>True
def X6(k B:Nat):j9→Prop
 |.nil=>True
 |.cons n r=>WN k B n∧X6 k B r
theorem Hz(a l:List Nat)(ha:a≠ [])(hl:a.length+l.length≤1000)(h:List L3.PO):aT (oV (some a)) (oV (some l)) h=.ok (oV (some (a++l))) h:=by show aT (.tup (a.map fun i=>PV.int (i:Nat))) (.tup (l.map fun i=>PV.int (i:Nat))) h=_;rw[vP,if_pos ⟨by cases a<;>first|exact absurd rfl ha|rfl,by rw[szl,List.length_map,List.length_map];omega⟩];show Res.ok (PV.tup _) h=.ok (.tup _) h;rw[List.map_append]
def Yh(ah:List Nat)(ρ:Ev):Option (List Nat)→SR
 |some l=>.rt (oV (some (ah++l))) []
 |none=>.nx ρ []
theorem yU(k:Nat)(A:j9)(hA:u9 A=true)(here ab:PV)(hh:here.pure=true)(hab:ab.pure=true)(ah:List Nat)(h0:ah≠ [])(o:Option (List Nat))(hl:∀l,o=some l→ah.length+l.length≤1000)(e:F k .q8 [.tup (b_ A),here,ab]=.ok (oV o))(x0 x1 x2 x3 x4 x6 H_:Option PV):
  cS (F k) [x0,x1,x2,x3,x4,some here,x6,some (oV (some ah)),some (.tup (b_ A)),some ab,H_] []=Yh ah [x0,x1,x2,x3,x4,some here,x6,some (oV (some ah)),some (.tup (b_ A)),some ab,some .non] o:=by
 have z1:=cx hA;have z2:=fun h=>cH h hh;have z3:=fun h=>cH h hab;have d2:=fun h=>bB h hh;have d3:=fun h=>bB h hab;have d4:∀h,ay h (oV (some ah))=oV (some ah):=fun h=>bB h (dH _)
 have VG:aC 10 (aA (F k .q8) (aa (ae 8) (aa (ae 5) (aa (ae 9) ag)))) [x0,x1,x2,x3,x4,some here,x6,some (oV (some ah)),some (.tup (b_ A)),some ab,H_] []=.nx [x0,x1,x2,x3,x4,some here,x6,some (oV (some ah)),some (.tup (b_ A)),some ab,some (oV o)] []:=bj (by simp only[EV,d2,d3,ai,z1,z2,z3,e])
 unfold cS;rw[aD VG]
 cases o with
 |some l=>have ad:=fun h=>Hz ah l h0 (hl l rfl) h;have nn:=kZ l;have dv:∀h,ay h (oV (some l))=oV (some l):=fun h=>bB h (dH _);rw[Yh];generalize oV (some l)=V at*;generalize oV (some ah)=W at*;simp only[EV,dv,d4,nn,ad]
 |none=>have nn:fh .non=true:=rfl;rw[Yh];generalize oV (some ah)=W at*;simp only[EV,oV,nn]
theorem oD:∀(i:Nat)(A:j9)(n:Nd)(r:j9),O_ i A=.cons n r→O_ (i+1) A=r
 |0,A,n,r,h=>by rw[O_]at h;rw[h,O_,O_]
 |i+1,.nil,n,r,h=>by rw[O_]at h;cases h
 |i+1,.cons m q,n,r,h=>by rw[O_]at h;rw[O_];exact oD i q n r h
theorem BP(k B:Nat)(NS:j9)(lp:Lp)(tr:List Ti)(hN:u9 NS=true)(dN:aO NS≤B)(lw:V4 lp=true)(ld:Xx lp≤B)(ok:∀x∈tr,oP B x)(E_:tr.length+aO NS<300)(hB:B≤100)(hk:4 * B+11≤k)(i:Nat)(n:Nd)(r:j9)(hi:O_ i NS=.cons n r)(hw:wf n=true)(hdn:K_ n≤aO NS)(wn:WN k B n)(x5 x6 x7 x8 x9 H_:Option PV):∃y5 y6 y7 y8 y9 Ph,
  dG (F k) [some (.tup (b_ NS)),some (.lst (tr.map tv)),some (Mt lp),some (.int (i:Nat)),some (nd n),x5,x6,x7,x8,x9,H_] []=match dU n (K1 r fun c=>O3 lp c||fW tr.reverse c) (K9 r (fZ tr.reverse))with
   |some l=>.rt (oV (some (i::l))) []
   |none=>.nx [some (.tup (b_ NS)),some (.lst (tr.map tv)),some (Mt lp),some (.int (i:Nat)),some (nd n),y5,y6,y7,y8,y9,Ph] []:=by
 have hd:K_ n≤B:=Nat.le_trans hdn dN
 have QZ:i<(b_ NS).length:=by have:=congrArg (fun A=>(b_ A).length) hi;simp only[rh,b_,List.length_drop,List.length_cons]at this;omega
 have U6:∀x∈tr++ [(NS,i,lp)],oP B x:=fun x hx=>by
  rcases List.mem_append.mp hx with q|q
  ·exact ok x q
  ·rw[List.mem_singleton.mp q];exact⟨hN,dN,QZ,lw,ld⟩
 obtain⟨j,rfl⟩:∃j,k=j+1:=⟨k - 1,by omega⟩
 obtain⟨ks,ea,fa⟩:=BI j B (by omega) (tr++ [(NS,i,lp)]) U6;have rv:(tr++ [(NS,i,lp)]).reverse=(NS,i,lp)::tr.reverse:=by rw[List.reverse_append];rfl
 rw[rv]at fa;have tl:=oD i NS n r hi
 have fF:fW ((NS,i,lp)::tr.reverse)=K1 r fun c=>O3 lp c||fW tr.reverse c:=by
  funext c
  rw[fW];dsimp only;rw[tl,K1]
 have fE:fZ ((NS,i,lp)::tr.reverse)=K9 r (fZ tr.reverse):=by rw[fZ];dsimp only;rw[tl,K9]
 have fa0:=fa;rw[fF,fE]at fa;have lc:=DE j n hw (by omega) fa;have tp:=rV (tr++ [(NS,i,lp)]) U6;have V6:(PV.lst ((tr++ [(NS,i,lp)]).map tv)).pure=true:=by rw[PV.pure];exact tp
 have lpp:=sW lw;have dl:∀h,ay h (Mt lp)=Mt lp:=fun h=>bB h lpp;have dn:∀h,ay h (nd n)=nd n:=fun h=>bB h (gq n hw);have ll:(tr.map tv).length+1≤16777216:=by rw[List.length_map];omega
 have em:tr.map tv++ [.tup [.tup (b_ NS),.int (i:Nat),Mt lp]]=(tr++ [(NS,i,lp)]).map tv:=by rw[List.map_append];rfl
 have e5:aC 5 (c2 aT (ae 1) (cN bx (aa (cN au (aa (ae 0) (aa (ae 3) aaw))) ag))) [some (.tup (b_ NS)),some (.lst (tr.map tv)),some (Mt lp),some (.int (i:Nat)),some (nd n),x5,x6,x7,x8,x9,H_] []=.nx [some (.tup (b_ NS)),some (.lst (tr.map tv)),some (Mt lp),some (.int (i:Nat)),some (nd n),some (.lst ((tr++ [(NS,i,lp)]).map tv)),x6,x7,x8,x9,H_] []:=bj (by simp only[EV,dl,ll,em])
 have zh:∀h,cC h (.lst ((tr++ [(NS,i,lp)]).map tv))=some (.lst ((tr++ [(NS,i,lp)]).map tv),h):=fun h=>fQ h tp;have zn:=jG hw;have zd:=fun h=>cH h (iH ks);have hr:(tr++ [(NS,i,lp)]).length+K_ n≤300:=by rw[List.length_append,List.length_singleton];omega
 generalize hH:PV.lst ((tr++ [(NS,i,lp)]).map tv)=HR at*;have dh:∀h,ay h HR=HR:=fun h=>bB h V6
 have Xm:∀ ρ0 ρ1 ρ2 ρ3 ρ6 ρ7 ρ8 ρ9 Wf:Option PV,(eP (ci (aA (F (j+1) .z_) (aa (ae 4) (aa (aA (F (j+1) .K7) aaR) ag))))) [ρ0,ρ1,ρ2,ρ3,some (nd n),some HR,ρ6,ρ7,ρ8,ρ9,Wf] []=.ok (!OJ n (K1 r fun c=>O3 lp c||fW tr.reverse c) (K9 r (fZ tr.reverse))) []:=fun _ _ _ _ _ _ _ _ _=>by simp only[EV,dh,dn,ai,zh,zn,zd,ea,lc]
 have n0:∀(t:List Nat)(l:List PV),m_ (PV.str t::l) 0=some (.str t):=fun _ _=>cU (by decide) rfl;unfold dG;rw[aD e5]
 cases q:OJ n (K1 r fun c=>O3 lp c||fW tr.reverse c) (K9 r (fZ tr.reverse))with
 |false=>
  have u0:dU n (K1 r fun c=>O3 lp c||fW tr.reverse c) (K9 r (fZ tr.reverse))=some []:=by
   cases n with
   |text c s=>rw[OJ]at q;cases q
   |place p w=>rw[dU,q];rfl
   |loop m p ns b=>rw[dU,q];rfl
   |choice p y n=>rw[dU,q];rfl
  rw[u0];rw[q,Bool.not_false]at Xm;refine⟨none,none,none,none,none,none,jr ?_⟩;rw[Bq,Xm];rfl
 |true=>
  rw[q,Bool.not_true]at Xm;have s1:∀(g1 g2:Sx) ρ6 ρ7 ρ8 ρ9 Wf,ak (v9 (eP (ci (aA (F (j+1) .z_) (aa (ae 4) (aa (aA (F (j+1) .K7) aaR) ag))))) g1 aW) g2 [some (.tup (b_ NS)),some (.lst (tr.map tv)),some (Mt lp),some (.int (i:Nat)),some (nd n),some HR,ρ6,ρ7,ρ8,ρ9,Wf] []=g2 [some (.tup (b_ NS)),some (.lst (tr.map tv)),some (Mt lp),some (.int (i:Nat)),some (nd n),some HR,ρ6,ρ7,ρ8,ρ9,Wf] []:=fun g1 g2 ρ6 ρ7 ρ8 ρ9 Wf=>aD (by rw[Bq,Xm];rfl);have s2:∀(g2:Sx),ak (aC 6 aaZ) g2 [some (.tup (b_ NS)),some (.lst (tr.map tv)),some (Mt lp),some (.int (i:Nat)),some (nd n),some HR,x6,x7,x8,x9,H_] []=g2 [some (.tup (b_ NS)),some (.lst (tr.map tv)),some (Mt lp),some (.int (i:Nat)),some (nd n),some HR,some (.lst []),x7,x8,x9,H_] []:=fun g2=>aD rfl;rw[s1,s2]
  cases n with
  |text c s=>
   rw[dU];refine⟨some HR,some (.lst []),x7,x8,x9,H_,?_⟩;have e1:∀h,m9 (.str tT) (.str tL) h=.ok (.bl false) h:=fun h=>by kernel_rfl
   have e2:∀h,m9 (.str tT) (.str tC) h=.ok (.bl false) h:=fun h=>by kernel_rfl
   rw[nd];simp only[EV,n0,e1,e2]<;>rfl
  |place p w=>
   rw[dU,q,if_pos rfl];refine⟨some HR,some (.lst []),x7,x8,x9,H_,?_⟩;have e1:∀h,m9 (.str tP) (.str tL) h=.ok (.bl false) h:=fun h=>by kernel_rfl
   have e2:∀h,m9 (.str tP) (.str tC) h=.ok (.bl false) h:=fun h=>by kernel_rfl
   rw[nd];simp only[EV,n0,e1,e2]<;>rfl
  |loop m p us b=>
   have N8:=hw;rw[wf,Bool.and_eq_true,Bool.and_eq_true]at N8;have w1:=wn (tr++ [(NS,i,lp)]) U6 hr;rw[hH,rv,fF,fE]at w1;rw[dU,q,if_pos rfl]
   have hl:∀l,Mp us 0 (fun c=>O3 (.lp m p us b) c||K1 r (fun c=>O3 lp c||fW tr.reverse c) c) (K9 r (fZ tr.reverse))=some l→ [i].length+l.length≤1000:=fun l h=>by have:=fM us 0 _ _ l h;rw[K_]at hd;rw[List.length_singleton];omega
   generalize ho:Mp us 0 (fun c=>O3 (.lp m p us b) c||K1 r (fun c=>O3 lp c||fW tr.reverse c) c) (K9 r (fZ tr.reverse))=o at*;have e1:∀h,m9 (.str tL) (.str tL) h=.ok (.bl true) h:=fun h=>by kernel_rfl
   have e2:∀h,m9 (.str tL) (.str tC) h=.ok (.bl false) h:=fun h=>by kernel_rfl
   have a3:m_ [PV.str tL,PV.str m,p,PV.tup (b_ us),PV.str b] 3=some (.tup (b_ us)):=rfl
   have s3:v9 (aB (c2 m9 aaD aau)) (aC 6 (cN bx (aa (cN au (aa (cN au aaA) (aa aaH aaM))) ag))) aW [some (.tup (b_ NS)),some (.lst (tr.map tv)),some (Mt lp),some (.int (i:Nat)),some (nd (.loop m p us b)),some HR,some (.lst []),x7,x8,x9,H_] []=.nx [some (.tup (b_ NS)),some (.lst (tr.map tv)),some (Mt lp),some (.int (i:Nat)),some (nd (.loop m p us b)),some HR,some (.lst [.tup [.tup [.int (i:Nat)],.tup (b_ us),nd (.loop m p us b)]]),x7,x8,x9,H_] []:=by rw[nd]at dn ⊢;simp only[EV,n0,a3,e1]
   have s4:∀g:Sx,ak (v9 (aB (c2 m9 aaD aaf)) g aW) (dD (eY (ae 6)) aa8 (cS (F (j+1)))) [some (.tup (b_ NS)),some (.lst (tr.map tv)),some (Mt lp),some (.int (i:Nat)),some (nd (.loop m p us b)),some HR,some (.lst [.tup [.tup [.int (i:Nat)],.tup (b_ us),nd (.loop m p us b)]]),x7,x8,x9,H_] []=aZ aa8 (cS (F (j+1))) [.tup [.tup [.int (i:Nat)],.tup (b_ us),nd (.loop m p us b)]] [some (.tup (b_ NS)),some (.lst (tr.map tv)),some (Mt lp),some (.int (i:Nat)),some (nd (.loop m p us b)),some HR,some (.lst [.tup [.tup [.int (i:Nat)],.tup (b_ us),nd (.loop m p us b)]]),x7,x8,x9,H_] []:=fun g=>by refine(aD (ρ1:=[some (.tup (b_ NS)),some (.lst (tr.map tv)),some (Mt lp),some (.int (i:Nat)),some (nd (.loop m p us b)),some HR,some (.lst [.tup [.tup [.int (i:Nat)],.tup (b_ us),nd (.loop m p us b)]]),x7,x8,x9,H_]) (h1:=[]) ?_).trans rfl;rw[nd];simp only[EV,n0,e2]
   rw[aD s3,s4];have wt:=yU (j+1) us N8.1.2 HR (nd (.loop m p us b)) V6 (gq _ hw) [i] (by simp) o hl w1 (some (.tup (b_ NS))) (some (.lst (tr.map tv))) (some (Mt lp)) (some (.int (i:Nat))) (some (nd (.loop m p us b))) (some (.lst [.tup [.tup [.int (i:Nat)],.tup (b_ us),nd (.loop m p us b)]])) H_
   cases o with
   |some l=>exact⟨none,none,none,none,none,none,gr rfl wt⟩
   |none=>exact⟨_,_,_,_,_,_,(cu rfl wt).trans rfl⟩
  |choice p y n=>
   have N8:=hw;rw[wf,Bool.and_eq_true,Bool.and_eq_true]at N8;have w1:=wn (tr++ [(NS,i,lp)]) U6 hr;rw[hH,rv,fF,fE]at w1;obtain⟨wy,wz⟩:=w1;rw[dU,q,if_pos rfl];rw[K_]at hd
   have hly:∀l,Mp y 0 (K1 r fun c=>O3 lp c||fW tr.reverse c) (K9 r (fZ tr.reverse))=some l→ [i,0].length+l.length≤1000:=fun l h=>by have:=fM y 0 _ _ l h;simp only[List.length_cons,List.length_nil];omega
   have hln:∀l,Mp n 0 (K1 r fun c=>O3 lp c||fW tr.reverse c) (K9 r (fZ tr.reverse))=some l→ [i,1].length+l.length≤1000:=fun l h=>by have:=fM n 0 _ _ l h;simp only[List.length_cons,List.length_nil];omega
   generalize hoy:Mp y 0 (K1 r fun c=>O3 lp c||fW tr.reverse c) (K9 r (fZ tr.reverse))=oy at*;generalize hon:Mp n 0 (K1 r fun c=>O3 lp c||fW tr.reverse c) (K9 r (fZ tr.reverse))=on at*;have e1:∀h,m9 (.str tC) (.str tL) h=.ok (.bl false) h:=fun h=>by kernel_rfl
   have e2:∀h,m9 (.str tC) (.str tC) h=.ok (.bl true) h:=fun h=>by kernel_rfl
   have a2:m_ [PV.str tC,p,PV.tup (b_ y),PV.tup (b_ n)] 2=some (.tup (b_ y)):=rfl;have a3:m_ [PV.str tC,p,PV.tup (b_ y),PV.tup (b_ n)] 3=some (.tup (b_ n)):=rfl
   have s3:∀g:Sx,v9 (aB (c2 m9 aaD aau)) g aW [some (.tup (b_ NS)),some (.lst (tr.map tv)),some (Mt lp),some (.int (i:Nat)),some (nd (.choice p y n)),some HR,some (.lst []),x7,x8,x9,H_] []=.nx [some (.tup (b_ NS)),some (.lst (tr.map tv)),some (Mt lp),some (.int (i:Nat)),some (nd (.choice p y n)),some HR,some (.lst []),x7,x8,x9,H_] []:=fun g=>by rw[nd];simp only[EV,n0,e1]
   have s4:ak (v9 (aB (c2 m9 aaD aaf)) (aC 6 (cN bx (aa (cN au (aa (cN au (aa (ae 3) abz)) (aa (c2 d7 (ae 4) aag) abh))) (aa (cN au (aa (cN au (aa (ae 3) (aa aad ag))) (aa aaH abh))) ag)))) aW) (dD (eY (ae 6)) aa8 (cS (F (j+1)))) [some (.tup (b_ NS)),some (.lst (tr.map tv)),some (Mt lp),some (.int (i:Nat)),some (nd (.choice p y n)),some HR,some (.lst []),x7,x8,x9,H_] []=aZ aa8 (cS (F (j+1))) [.tup [oV (some [i,0]),.tup (b_ y),.non],.tup [oV (some [i,1]),.tup (b_ n),.non]] [some (.tup (b_ NS)),some (.lst (tr.map tv)),some (Mt lp),some (.int (i:Nat)),some (nd (.choice p y n)),some HR,some (.lst [.tup [oV (some [i,0]),.tup (b_ y),.non],.tup [oV (some [i,1]),.tup (b_ n),.non]]),x7,x8,x9,H_] []:=by refine(aD (ρ1:=[some (.tup (b_ NS)),some (.lst (tr.map tv)),some (Mt lp),some (.int (i:Nat)),some (nd (.choice p y n)),some HR,some (.lst [.tup [oV (some [i,0]),.tup (b_ y),.non],.tup [oV (some [i,1]),.tup (b_ n),.non]]),x7,x8,x9,H_]) (h1:=[]) ?_).trans rfl;rw[nd];simp only[EV,n0,a2,a3,e2];rfl
   rw[aD (s3 _),s4];have Yi:=fun H_=>yU (j+1) y N8.1.2 HR .non V6 rfl [i,0] (by simp) oy hly wy (some (.tup (b_ NS))) (some (.lst (tr.map tv))) (some (Mt lp)) (some (.int (i:Nat))) (some (nd (.choice p y n))) (some (.lst [.tup [oV (some [i,0]),.tup (b_ y),.non],.tup [oV (some [i,1]),.tup (b_ n),.non]])) H_;have Zw:=fun H_=>yU (j+1) n N8.2 HR .non V6 rfl [i,1] (by simp) on hln wz (some (.tup (b_ NS))) (some (.lst (tr.map tv))) (some (Mt lp)) (some (.int (i:Nat))) (some (nd (.choice p y n))) (some (.lst [.tup [oV (some [i,0]),.tup (b_ y),.non],.tup [oV (some [i,1]),.tup (b_ n),.non]])) H_
   cases oy with
   |some l=>exact⟨none,none,none,none,none,none,gr rfl (Yi _)⟩
   |none=>
    cases on with
    |some l=>exact⟨none,none,none,none,none,none,(cu rfl (Yi _)).trans (gr rfl (Zw _))⟩
    |none=>exact⟨_,_,_,_,_,_,(cu rfl (Yi _)).trans ((cu rfl (Zw _)).trans rfl)⟩
theorem vT(k B:Nat)(NS:j9)(lp:Lp)(tr:List Ti)(hN:u9 NS=true)(dN:aO NS≤B)(lw:V4 lp=true)(ld:Xx lp≤B)(ok:∀x∈tr,oP B x)(E_:tr.length+aO NS<300)(hB:B≤100)(hk:4 * B+11≤k):∀(r:j9)(i:Nat),O_ i NS=r→u9 r=true→aO r≤aO NS→X6 k B r→∀x3 x4 x5 x6 x7 x8 x9 H_:Option PV,∃y3 y4 y5 y6 y7 y8 y9 Ph,
  aZ (Nm 2 aa5) (dG (F k)) (R8 i (b_ r)) [some (.tup (b_ NS)),some (.lst (tr.map tv)),some (Mt lp),x3,x4,x5,x6,x7,x8,x9,H_] []=match Mp r i (fun c=>O3 lp c||fW tr.reverse c) (fZ tr.reverse)with
   |some l=>.rt (oV (some l)) []
   |none=>.nx [some (.tup (b_ NS)),some (.lst (tr.map tv)),some (Mt lp),y3,y4,y5,y6,y7,y8,y9,Ph] []
 |.nil,i,_,_,_,_,x3,x4,x5,x6,x7,x8,x9,H_=>⟨x3,x4,x5,x6,x7,x8,x9,H_,by rw[Mp,b_];rfl⟩
 |.cons n r,i,hi,hw,hd,wn,x3,x4,x5,x6,x7,x8,x9,H_=>by
  rw[u9,Bool.and_eq_true]at hw;rw[aO]at hd;obtain⟨y5,y6,y7,y8,y9,Ph,e1⟩:=BP k B NS lp tr hN dN lw ld ok E_ hB hk i n r hi hw.1 (by omega) wn.1 x5 x6 x7 x8 x9 H_;have hg:Nm 2 aa5 (.tup [.int (i:Nat),nd n]) [some (.tup (b_ NS)),some (.lst (tr.map tv)),some (Mt lp),x3,x4,x5,x6,x7,x8,x9,H_]=some [some (.tup (b_ NS)),some (.lst (tr.map tv)),some (Mt lp),some (.int (i:Nat)),some (nd n),x5,x6,x7,x8,x9,H_]:=rfl;rw[b_,R8,Mp]
  cases q:dU n (K1 r fun c=>O3 lp c||fW tr.reverse c) (K9 r (fZ tr.reverse))with
  |some l=>rw[q]at e1;exact⟨none,none,none,none,none,none,none,none,gr hg e1⟩
  |none=>rw[q]at e1;obtain⟨z3,z4,z5,z6,z7,z8,z9,Yd,ih⟩:=vT k B NS lp tr hN dN lw ld ok E_ hB hk r (i+1) (oD i NS n r hi) hw.2 (by omega) wn.2 (some (.int (i:Nat))) (some (nd n)) y5 y6 y7 y8 y9 Ph;exact⟨z3,z4,z5,z6,z7,z8,z9,Yd,(cu hg e1).trans ih⟩
theorem vS(k B:Nat)(NS:j9)(lp:Lp)(tr:List Ti)(hN:u9 NS=true)(dN:aO NS≤B)(lw:V4 lp=true)(ld:Xx lp≤B)(ok:∀x∈tr,oP B x)(E_:tr.length+aO NS<300)(hB:B≤100)(hk:4 * B+11≤k)(wn:X6 k B NS):F (k+1) .q8 [.tup (b_ NS),.lst (tr.map tv),Mt lp]=.ok (oV (Mp NS 0 (fun c=>O3 lp c||fW tr.reverse c) (fZ tr.reverse))):=by
 obtain⟨y3,y4,y5,y6,y7,y8,y9,Ph,e⟩:=vT k B NS lp tr hN dN lw ld ok E_ hB hk NS 0 (by rw[O_]) hN (Nat.le_refl _) wn none none none none none none none none;have fr:∀res,aZ (Nm 2 aa5) (dG (F k)) (R8 0 (b_ NS)) [some (.tup (b_ NS)),some (.lst (tr.map tv)),some (Mt lp),none,none,none,none,none,none,none,none] []=res→dD (iO aas) (Nm 2 aa5) (dG (F k)) [some (.tup (b_ NS)),some (.lst (tr.map tv)),some (Mt lp),none,none,none,none,none,none,none,none] []=res:=fun res q=>q;generalize Mp NS 0 (fun c=>O3 lp c||fW tr.reverse c) (fZ tr.reverse)=o at*
 cases o with
 |some l=>have bd:eh (F k) [some (.tup (b_ NS)),some (.lst (tr.map tv)),some (Mt lp),none,none,none,none,none,none,none,none] []=.rt (oV (some l)) []:=jr (fr _ e);exact dj (f:=eh (F k)) (np:=3) (n:=11) (ps:=[.tup (b_ NS),.lst (tr.map tv),Mt lp]) rfl bd (bR (dH _))
 |none=>have bd:eh (F k) [some (.tup (b_ NS)),some (.lst (tr.map tv)),some (Mt lp),none,none,none,none,none,none,none,none] []=.rt .non []:=(aD (fr _ e)).trans rfl;exact dj (f:=eh (F k)) (np:=3) (n:=11) (ps:=[.tup (b_ NS),.lst (tr.map tv),Mt lp]) rfl bd rfl
theorem AL(g:Nat→Bool):(fun c=>O3 .no c||g c)=g:=by funext c;rw[O3,Bool.false_or]
mutual
theorem HN(B:Nat)(hB:B≤100):∀n:Nd,wf n=true→K_ n≤B→∀k,4 * B+K_ n+11≤k→WN k B n
 |.text _ _,_,_,_,_=>True.intro
 |.place _ _,_,_,_,_=>True.intro
 |.loop m p us b,hw,hd,k,hk=>fun tr ok hl=>by
  have N8:=hw;rw[wf,Bool.and_eq_true,Bool.and_eq_true]at N8;rw[K_]at hd hk hl;obtain⟨j,rfl⟩:∃j,k=j+1:=⟨k - 1,by omega⟩
  exact vS j B us (.lp m p us b) tr N8.1.2 (by omega) hw (show aO us≤B by omega) ok (by omega) hB (by omega) (mZ B hB us N8.1.2 (by omega) j (by omega))
 |.choice p y n,hw,hd,k,hk=>fun tr ok hl=>by
  have N8:=hw;rw[wf,Bool.and_eq_true,Bool.and_eq_true]at N8;rw[K_]at hd hk hl;obtain⟨j,rfl⟩:∃j,k=j+1:=⟨k - 1,by omega⟩
  have a:=vS j B y .no tr N8.1.2 (by omega) rfl (Nat.zero_le _) ok (by omega) hB (by omega) (mZ B hB y N8.1.2 (by omega) j (by omega));have b:=vS j B n .no tr N8.2 (by omega) rfl (Nat.zero_le _) ok (by omega) hB (by omega) (mZ B hB n N8.2 (by omega) j (by omega));rw[AL]at a b;exact⟨a,b⟩
theorem mZ(B:Nat)(hB:B≤100):∀ns:j9,u9 ns=true→aO ns≤B→∀k,4 * B+aO ns+11≤k→X6 k B ns
 |.nil,_,_,_,_=>True.intro
 |.cons n r,hw,hd,k,hk=>by rw[u9,Bool.and_eq_true]at hw;rw[aO]at hd hk;exact⟨HN B hB n hw.1 (by omega) k (by omega),mZ B hB r hw.2 (by omega) k (by omega)⟩
end
theorem BQ(k:Nat)(ns:j9)(hw:u9 ns=true)(hd:aO ns≤100)(hk:5 * aO ns+12≤k):F k .q8 [.tup (b_ ns),.lst [],.non]=.ok (oV (Mp ns 0 (fun _=>false) true)):=by
 obtain⟨j,rfl⟩:∃j,k=j+1:=⟨k - 1,by omega⟩
 have a:=vS j (aO ns) ns .no [] hw (Nat.le_refl _) rfl (Nat.zero_le _) (fun x hx=>by cases hx) (by simp;omega) hd (by omega) (mZ (aO ns) hd ns hw (Nat.le_refl _) j (by omega));rw[AL]at a;exact a
abbrev Np(n:Int):PO:=.lst [.int n]
theorem fV(n:Int):(Np n).pure=true:=by simp[PO.pure,aI,PV.pure]
structure Bt(A B:j9):Prop where
 w:u9 B=true
 d:aO B≤aO A
 l:dS B≤dS A
theorem Bt.nil:Bt .nil .nil:=⟨by rw[u9],Nat.le_refl _,Nat.le_refl _⟩
theorem Bt.drop{n:Nd}{r B:j9}(h:Bt r B):Bt (.cons n r) B:=⟨h.w,by have:=h.d;rw[aO];omega,by have:=h.l;rw[dS];omega⟩
theorem Bt.keep{n m:Nd}{r B:j9}(hw:wf m=true)(hd:K_ m≤K_ n)(hl:Qo m≤Qo n)(h:Bt r B):Bt (.cons n r) (.cons m B):=⟨by rw[u9,hw,h.w];rfl,by have:=h.d;rw[aO,aO];omega,by have:=h.l;rw[dS,dS];omega⟩
theorem xm{fn:List PV→List PO→Res PV}{p q v:PV}{h:List PO}{i:Nat}{o o':PO}(hp:p.pure=true)(hq':q.pure=true)(ho:h[i]? =some o)(oo:o.pure=true)(e:fn [p,q,.ref 0] [o]=.ok v [o'])(hv:v.pure=true)(RZ:o'.pure=true):gR fn [p,q,.ref i] h=.ok v (h.set i o'):=by
 have n1:=mQ hp;have n2:=mQ hq'
 have e1:QX [p,q,.ref i]=[i]:=by
  have a:QX [p,q,.ref i]=QX [q,.ref i]:=by cases p<;>first|rfl|exact(n1 _ rfl).elim
  have b:QX [q,.ref i]=[i]:=by cases q<;>first|rfl|exact(n2 _ rfl).elim
  rw[a,b]
 have e2:Ri 0 [p,q,.ref i]=[p,q,.ref 0]:=by
  have a:Ri 0 [p,q,.ref i]=p::Ri 0 [q,.ref i]:=by cases p<;>first|rfl|exact(n1 _ rfl).elim
  have b:Ri 0 [q,.ref i]=[q,.ref 0]:=by cases q<;>first|rfl|exact(n2 _ rfl).elim
  rw[a,b]
 have e3:jf [p,q,.ref i]=true:=by
  have a:jf [p,q,.ref i]=(p.pure&&jf [q,.ref i]):=by cases p<;>first|rfl|exact(n1 _ rfl).elim
  have b:jf [q,.ref i]=(q.pure&&jf [.ref i]):=by cases q<;>first|rfl|exact(n2 _ rfl).elim
  rw[a,b,hp,hq'];rfl
 have e4:fJ h [i]=some [o]:=by simp[fJ,ho]
 have e5:bS [o]=true:=by simp[bS,oo]
 have e6:jz [i]=true:=by simp[jz]
 unfold gR;rw[e1,e4];simp only[e2,e3,e5,e6,Bool.and_self,if_true,e];rw[if_pos ⟨hv,by simp[bS,RZ],rfl⟩];rfl
def BO(k:Nat)(n:Int)(A:j9):Prop:=∀s:Int,∃B s',L k .J2 [.tup (b_ A),.int n,.ref 0] [Np s]=.ok (.tup (b_ B)) [Np s']∧Bt A B
def BN(k:Nat)(n:Int):j9→Prop
 |.nil=>True
 |.cons (.text _ _) r=>BN k n r
 |.cons (.place _ _) r=>BN k n r
 |.cons (.loop _ _ us _) r=>BO k n us∧BN k n r
 |.cons (.choice _ y z) r=>(BO k n y∧BO k n z)∧BN k n r
theorem JL(o:PO)(xs:List PV)(p:PV)(h:xs.length<16777216):ba (.ref 1) [p] [o,.lst xs]=.ok .non [o,.lst (xs++ [p])]:=by show(if xs.length<sizeLine then Res.ok PV.non [o,PO.lst (xs++ [p])]else .bad)=_;rw[if_pos (by rw[szl];exact h)]
theorem my(k:Nat)(n:Int)(t:PV):∀(ns:j9),u9 ns=true→M9 ns≤8000000→BN (k+1) n ns→∀(A:j9)(s:Int)(x4:Option PV),(b_ A).length+(b_ ns).length≤16777216→∃B s' y4,
  aZ (n8 4) (bP (F (k+1)) (L (k+1))) (b_ ns) [some t,some (.int n),some (.ref 0),some (.ref 1),x4] [Np s,.lst (b_ A)]=.nx [some t,some (.int n),some (.ref 0),some (.ref 1),y4] [Np s',.lst (b_ (apN A B))]∧Bt ns B
 |.nil,_,_,_,A,s,x4,_=>⟨.nil,s,x4,by rw[tX,b_];rfl,Bt.nil⟩
 |.cons m r,hw,hz,bn,A,s,x4,hl=>by
  rw[u9,Bool.and_eq_true]at hw;rw[M9]at hz;rw[b_,List.length_cons]at hl
  have more:BN (k+1) n r→∀(m':Nd)(s1:Int),bP (F (k+1)) (L (k+1)) [some t,some (.int n),some (.ref 0),some (.ref 1),some (nd m)] [Np s,.lst (b_ A)]=.nx [some t,some (.int n),some (.ref 0),some (.ref 1),some (nd m)] [Np s1,.lst (b_ A++ [nd m'])]→wf m'=true→K_ m'≤K_ m→Qo m'≤Qo m→∃B s' y4,
    aZ (n8 4) (bP (F (k+1)) (L (k+1))) (b_ (.cons m r)) [some t,some (.int n),some (.ref 0),some (.ref 1),x4] [Np s,.lst (b_ A)]=.nx [some t,some (.int n),some (.ref 0),some (.ref 1),y4] [Np s',.lst (b_ (apN A B))]∧Bt (.cons m r) B:=fun bn m' s1 e w1 d1 l1=>by
   have la:(b_ (O6 A m')).length=(b_ A).length+1:=by rw[dk];simp
   obtain⟨B,s',y4,e2,b2⟩:=my k n t r hw.2 (by omega) bn (O6 A m') s1 (some (nd m)) (by omega);refine⟨.cons m' B,s',y4,?_,Bt.keep w1 d1 l1 b2⟩;rw[jW]at e2;rw[dk]at e2;rw[b_];exact(cu rfl e).trans e2
  have d0:∀(a b:PO)(xs:List PO),ay (.lst [.int s]::b::xs) (.ref 0)=.ref 0:=fun _ _ _=>rfl;have W_:∀(s:Int)(xs:List PV),ay [Np s,.lst xs] (.ref 0)=.ref 0:=fun _ _=>rfl;have T7:∀(s:Int)(xs:List PV),ay [Np s,.lst xs] (.ref 1)=.ref 1:=fun _ _=>rfl;have li:∀(s:Int)(xs:List PV),cz [Np s,.lst xs] (.ref 1)=true:=fun _ _=>rfl;have ap:=fun(s:Int) p=>JL (Np s) (b_ A) p (by omega);have n0:∀(t:List Nat)(l:List PV),m_ (PV.str t::l) 0=some (.str t):=fun _ _=>cU (by decide) rfl
  cases m with
  |text c u=>
   have hT:=hw.1;rw[wf]at hT;have UG:BN (k+1) n r:=bn;have Ue:∀(s:Int)(xs:List PV),d7 (.ref 0) (.int 0) [Np s,.lst xs]=.ok (.int s) [Np s,.lst xs]:=fun _ _=>rfl;have st:∀ ρ,jq (.int (s+1)) (.ref 0) (.int 0) ρ [Np s,.lst (b_ A)]=.nx ρ [Np (s+1),.lst (b_ A)]:=fun ρ=>rfl;have e1:∀h,m9 (.str tT) (.str tT) h=.ok (.bl true) h:=fun h=>by kernel_rfl
   have a1:m_ [PV.str tT,PV.str (c::u)] 1=some (.str (c::u)):=rfl;have Uc:decide ((0:Int)<12)=true:=by decide
   have Ws:decide ((0:Int)<12∧(12:Int)<1073741824)=true:=by decide
   have p24:decide ((0:Int)<24∧(24:Int)<1073741824)=true:=by decide
   have p2:decide ((0:Int)<2)=true:=by decide
   have RD:decide ((0:Int)<95)=true:=by decide
   have mk:=iG k;have sl:=xO;have sa:=jo (n / 24);have dn:∀h,ay h (nd (.text c u))=nd (.text c u):=fun h=>rfl;have tl:u.length+1≤8000000:=by rw[tz]at hz;omega
   have al:1+(u.length+1)≤16777216:=by omega
   by_cases q1:s+1=n % 12
   ·have eq1:∀h,m9 (.int (s+1)) (.int (n % 12)) h=.ok (.bl true) h:=fun h=>by rw[cP,decide_eq_true q1]
    by_cases q2:n / 12 % 2=0
    ·refine more UG (.text (J6 (n / 24)) (c::u)) (s+1) ?_ ?_ (Nat.le_refl _) (Nat.le_refl _)
     ·have eq2:∀h,m9 (.int (n / 12 % 2)) (.int 0) h=.ok (.bl true) h:=fun h=>by rw[cP,decide_eq_true q2]
      rw[nd,nd];simp only[EV,bP,n0,a1,e1,W_,T7,Ue,st,eq1,eq2,Uc,Ws,p24,p2,RD,ai,mk,sa,sl,al,li,ap]
     ·rw[wf];unfold txt;rw[Bool.and_eq_true];exact⟨decide_eq_true (by simp only[List.length_cons];omega),gn (a:=[J6 (n / 24)]) (pD _) (eN hT)⟩
    ·obtain⟨B,s',y4,e2,b2⟩:=my k n t r hw.2 (by omega) UG A (s+1) (some (nd (.text c u))) (by omega);refine⟨B,s',y4,?_,b2.drop⟩;rw[b_];refine(cu (ρ2:=[some t,some (.int n),some (.ref 0),some (.ref 1),some (nd (.text c u))]) (h2:=[Np (s+1),.lst (b_ A)]) rfl ?_).trans e2;show bP (F (k+1)) (L (k+1)) [some t,some (.int n),some (.ref 0),some (.ref 1),some (nd (.text c u))] [Np s,.lst (b_ A)]=_;rw[nd];have ne:∀h,Qv (.int (s+1)) (.int (n % 12)) h=.ok (.bl false) h:=fun h=>by rw[AC,q1];simp
     have eq2:∀h,m9 (.int (n / 12 % 2)) (.int 0) h=.ok (.bl false) h:=fun h=>by rw[cP,decide_eq_false q2]
     simp only[EV,bP,n0,e1,W_,T7,Ue,st,eq1,eq2,ne,Uc,Ws,p2]
   ·refine more UG (.text c u) (s+1) ?_ hw.1 (Nat.le_refl _) (Nat.le_refl _);have ne:∀h,Qv (.int (s+1)) (.int (n % 12)) h=.ok (.bl true) h:=fun h=>by rw[AC,decide_eq_false q1];rfl
    have eq1:∀h,m9 (.int (s+1)) (.int (n % 12)) h=.ok (.bl false) h:=fun h=>by rw[cP,decide_eq_false q1]
    rw[nd]at dn ⊢;simp only[EV,bP,n0,e1,W_,T7,Ue,st,eq1,ne,Uc,dn,li,ap]
  |place p w=>
   have UG:BN (k+1) n r:=bn;refine more UG (.place p w) s ?_ hw.1 (Nat.le_refl _) (Nat.le_refl _);have e1:∀h,m9 (.str tP) (.str tT) h=.ok (.bl false) h:=fun h=>by kernel_rfl
   have e2:∀h,m9 (.str tP) (.str tL) h=.ok (.bl false) h:=fun h=>by kernel_rfl
   have e3:∀h,m9 (.str tP) (.str tC) h=.ok (.bl false) h:=fun h=>by kernel_rfl
   rw[nd];simp only[EV,bP,n0,e1,e2,e3,T7,li,ap]
  |loop nm p us b=>
   obtain⟨bo,UG⟩:=bn;obtain⟨Yj,s1,eb,bb⟩:=bo s;have N8:=hw.1;rw[wf,Bool.and_eq_true,Bool.and_eq_true]at N8;have cb:=xm (h:=[Np s,.lst (b_ A)]) (i:=0) (PV.t_ (aQ us N8.1.2)) (q:=.int n) rfl rfl (fV s) eb (PV.t_ (aQ Yj bb.w)) (fV s1);have bw:=bb.w;have bd:=bb.d;have bl:=bb.l;refine more UG (.loop nm p Yj b) s1 ?_ (by rw[wf,N8.1.1,N8.2,bw];rfl) (by rw[K_,K_];omega) (by rw[Qo,Qo];omega);have e1:∀h,m9 (.str tL) (.str tT) h=.ok (.bl false) h:=fun h=>by kernel_rfl
   have e2:∀h,m9 (.str tL) (.str tL) h=.ok (.bl true) h:=fun h=>by kernel_rfl
   have a3:m_ [PV.str tL,PV.str nm,p,PV.tup (b_ us),PV.str b] 3=some (.tup (b_ us)):=rfl;have a4:m_ [PV.str tL,PV.str nm,p,PV.tup (b_ us),PV.str b] 4=some (.str b):=rfl;have sl3:∀h,mL (.tup [PV.str tL,PV.str nm,p,PV.tup (b_ us),PV.str b]) none (some 3) h=.ok (.tup [.str tL,.str nm,p]) h:=fun _=>rfl;have cb':gR (L (k+1) .J2) [.tup (b_ us),.int n,.ref 0] [Np s,.lst (b_ A)]=.ok (.tup (b_ Yj)) [Np s1,.lst (b_ A)]:=cb;rw[nd,nd];simp only[EV,bP,List.isEmpty_cons,n0,e1,e2,a3,a4,sl3,W_,T7,li,cb',ap]
  |choice p y z=>
   obtain⟨⟨bo1,bo2⟩,UG⟩:=bn;obtain⟨y',s1,eb,bb⟩:=bo1 s;obtain⟨z',s2,ec,bc⟩:=bo2 s1;have N8:=hw.1;rw[wf,Bool.and_eq_true,Bool.and_eq_true]at N8;have cb:gR (L (k+1) .J2) [.tup (b_ y),.int n,.ref 0] [Np s,.lst (b_ A)]=.ok (.tup (b_ y')) [Np s1,.lst (b_ A)]:=xm (h:=[Np s,.lst (b_ A)]) (i:=0) (PV.t_ (aQ y N8.1.2)) (q:=.int n) rfl rfl (fV s) eb (PV.t_ (aQ y' bb.w)) (fV s1);have cc:gR (L (k+1) .J2) [.tup (b_ z),.int n,.ref 0] [Np s1,.lst (b_ A)]=.ok (.tup (b_ z')) [Np s2,.lst (b_ A)]:=xm (h:=[Np s1,.lst (b_ A)]) (i:=0) (PV.t_ (aQ z N8.2)) (q:=.int n) rfl rfl (fV s1) ec (PV.t_ (aQ z' bc.w)) (fV s2);have bw:=bb.w;have bd:=bb.d;have bl:=bb.l;have cw:=bc.w;have cd:=bc.d;have cl:=bc.l;refine more UG (.choice p y' z') s2 ?_ (by rw[wf,N8.1.1,bw,cw];rfl) (by rw[K_,K_];omega) (by rw[Qo,Qo];omega);have e1:∀h,m9 (.str tC) (.str tT) h=.ok (.bl false) h:=fun h=>by kernel_rfl
   have e2:∀h,m9 (.str tC) (.str tL) h=.ok (.bl false) h:=fun h=>by kernel_rfl
   have e3:∀h,m9 (.str tC) (.str tC) h=.ok (.bl true) h:=fun h=>by kernel_rfl
   have a2:m_ [PV.str tC,p,PV.tup (b_ y),PV.tup (b_ z)] 2=some (.tup (b_ y)):=rfl;have a3:m_ [PV.str tC,p,PV.tup (b_ y),PV.tup (b_ z)] 3=some (.tup (b_ z)):=rfl;have V1:∀h,mL (.tup [PV.str tC,p,PV.tup (b_ y),PV.tup (b_ z)]) none (some 2) h=.ok (.tup [.str tC,p]) h:=fun _=>rfl;rw[nd,nd];simp only[EV,bP,List.isEmpty_cons,n0,e1,e2,e3,a2,a3,V1,W_,T7,li,cb,cc,ap]
theorem Ef(k:Nat)(n:Int)(ns:j9)(hw:u9 ns=true)(hz:M9 ns≤8000000)(hl:(b_ ns).length≤16777216)(bn:BN (k+1) n ns):BO (k+2) n ns:=fun s=>by
 obtain⟨B,s',y4,e,bt⟩:=my k n (.tup (b_ ns)) ns hw hz bn .nil s none (by rw[b_];simpa using hl);rw[eX,b_]at e;refine⟨B,s',?_,bt⟩;have e3:aC 3 abn [some (.tup (b_ ns)),some (.int n),some (.ref 0),none,none] [Np s]=.nx [some (.tup (b_ ns)),some (.int n),some (.ref 0),some (.ref 1),none] [Np s,.lst []]:=rfl;have fr:dD abd (n8 4) (bP (F (k+1)) (L (k+1))) [some (.tup (b_ ns)),some (.int n),some (.ref 0),some (.ref 1),none] [Np s,.lst []]=.nx [some (.tup (b_ ns)),some (.int n),some (.ref 0),some (.ref 1),y4] [Np s',.lst (b_ B)]:=e
 have bd:gW (F (k+1)) (L (k+1)) [some (.tup (b_ ns)),some (.int n),some (.ref 0),none,none] [Np s]=.rt (.tup (b_ B)) [Np s',.lst (b_ B)]:=by unfold gW;rw[aD e3,aD fr];rfl
 show hJ (gW (F (k+1)) (L (k+1))) 3 5 [.tup (b_ ns),.int n,.ref 0] [Np s]=_;refine kR (f:=gW (F (k+1)) (L (k+1))) (np:=3) (n:=5) rfl bd ?_;have pu:=PV.t_ (aQ B bt.w);unfold qZ;rw[cH _ pu];show oY 1 (.tup (b_ B)) [Np s',.lst (b_ B)]=_;unfold oY;rw[if_pos]
 ·rfl
 ·show(bS [Np s']&&Nat.ble 1 2)=true;rw[show bS [Np s']=true by simp[bS,PO.pure,aI,PV.pure]];rfl
theorem xl{a b c:Nat}(h:max a b≤c):a≤c:=Nat.le_trans (Nat.le_max_left a b) h
theorem xr{a b c:Nat}(h:max a b≤c):b≤c:=Nat.le_trans (Nat.le_max_right a b) h
theorem zs1{a b c:Nat}(h:a+b≤c):a≤c:=Nat.le_trans (Nat.le_add_right a b) h
theorem zs2{a b c:Nat}(h:a+b≤c):b≤c:=Nat.le_trans (Nat.le_add_left b a) h
theorem T7{a b k:Nat}(h:2 * max a b+1≤k):2 * b+1≤k:=by omega
theorem VH{a b k:Nat}(h:2 * max (a+1) b+1≤k):2 * a+3≤k:=by omega
theorem xn(k:Nat)(n:Int)(ns:j9)(hw:u9 ns=true)(hz:M9 ns≤8000000)(hl:dS ns≤16777216)(h:∀j,2 * aO ns+1≤j→BN j n ns)(hk:2 * aO ns+3≤k):BO k n ns:=by
 obtain⟨j,rfl⟩:∃j,k=j+2:=⟨k - 2,by omega⟩
 exact Ef j n ns hw hz (Nat.le_trans (iw ns) hl) (h (j+1) (by omega))
theorem jM(n:Int):∀ns:j9,u9 ns=true→M9 ns≤8000000→dS ns≤16777216→∀k,2 * aO ns+1≤k→BN k n ns
 |.nil,_,_,_,_,_=>True.intro
 |.cons (.text c s) r,hw,hz,hl,k,hk=>by rw[u9,Bool.and_eq_true]at hw;rw[M9]at hz;rw[dS]at hl;rw[aO]at hk;exact jM n r hw.2 (zs2 hz) (zs1 (xr hl)) k (T7 hk)
 |.cons (.place p w) r,hw,hz,hl,k,hk=>by rw[u9,Bool.and_eq_true]at hw;rw[M9]at hz;rw[dS]at hl;rw[aO]at hk;exact jM n r hw.2 (zs2 hz) (zs1 (xr hl)) k (T7 hk)
 |.cons (.loop m p us b) r,hw,hz,hl,k,hk=>by rw[u9,Bool.and_eq_true,wf,Bool.and_eq_true,Bool.and_eq_true]at hw;rw[M9,tz]at hz;rw[dS,Qo]at hl;rw[aO,K_]at hk;have Yw:=zs1 (zs1 hz);exact⟨xn k n us hw.1.1.2 Yw (xl hl) (jM n us hw.1.1.2 Yw (xl hl)) (VH hk),jM n r hw.2 (zs2 hz) (zs1 (xr hl)) k (T7 hk)⟩
 |.cons (.choice p y z) r,hw,hz,hl,k,hk=>by rw[u9,Bool.and_eq_true,wf,Bool.and_eq_true,Bool.and_eq_true]at hw;rw[M9,tz]at hz;rw[dS,Qo]at hl;rw[aO,K_]at hk;have hy:=zs1 (zs1 hz);have hq:=zs2 (zs1 hz);have h3:=VH hk;exact⟨⟨xn k n y hw.1.1.2 hy (xl (xl hl)) (jM n y hw.1.1.2 hy (xl (xl hl))) (by omega),xn k n z hw.1.2 hq (xr (xl hl)) (jM n z hw.1.2 hq (xr (xl hl))) (by omega)⟩,jM n r hw.2 (zs2 hz) (zs1 (xr hl)) k (T7 hk)⟩
theorem Eg(k:Nat)(n:Int)(ns:j9)(g:Gd ns)(hk:2 * aO ns+3≤k):BO k n ns:=xn k n ns g.w g.z g.l (jM n ns g.w g.z g.l) hk
theorem Fq(k:Nat)(i:Nat):F (k+1) .L_ [.int (i:Nat),.int (i:Nat)]=.ok (.bl true):=by
 show aJ (gS (F k)) 2 4 [.int (i:Nat),.int (i:Nat)]=_;have t1:∀h,me [.int (i:Nat),.tup [.ty "list",.ty "tuple"]] h=.ok (.bl false) h:=fun h=>rfl;have e1:∀h,m9 (.bl false) (.bl false) h=.ok (.bl true) h:=fun h=>by kernel_rfl
 have e2:∀h,m9 (.int (i:Nat)) (.int (i:Nat)) h=.ok (.bl true) h:=fun h=>by rw[cP];simp
 have fr:cW (.bl true) []=.ok (.bl true):=rfl;simp only[EV,aJ,gS,t1,e1,e2,fr]
theorem Cf(k:Nat)(l:List Nat)(hl:l.length≤1000):F (k+2) .L_ [oV (some l),oV (some l)]=.ok (.bl true):=by
 show aJ (gS (F (k+1))) 2 4 [.tup (l.map fun i=>PV.int (i:Nat)),.tup (l.map fun i=>PV.int (i:Nat))]=_;have ll:(l.map fun i=>PV.int (i:Nat)).length=l.length:=List.length_map _;generalize hx:(l.map fun i=>PV.int (i:Nat))=xs at*;have t1:∀h,me [.tup xs,.tup [.ty "list",.ty "tuple"]] h=.ok (.bl true) h:=fun h=>rfl;have e0:∀h,Qv (.bl false) (.bl false) h=.ok (.bl false) h:=fun h=>by kernel_rfl
 have e1:∀h,Qv (.bl true) (.bl true) h=.ok (.bl false) h:=fun h=>by kernel_rfl
 have e2:∀h,m9 (.int (l.length:Nat)) (.int (l.length:Nat)) h=.ok (.bl true) h:=fun h=>by rw[cP];simp
 have l2:∀h,gI [.tup xs] h=.ok (.int (l.length:Nat)) h:=fun h=>by rw[Je,ll]
 have bl:Rv 4611686018427387904 ((l.length:Nat):Int)=true:=du.mpr ⟨by omega,by omega⟩;have tn:((l.length:Nat):Int).toNat=l.length:=by omega
 have cp:∀x y,dL [0,1] [some (PV.tup xs),some (PV.tup xs),x,y]=[some (PV.tup xs),some (PV.tup xs)]:=fun _ _=>rfl
 have cm:∀h,be bX (kD (F (k+1))) [some (PV.tup xs),some (PV.tup xs)] ((List.range l.length).map fun i=>PV.int (0+(i:Nat))) h=.ok (((List.range l.length).map fun i=>PV.int (0+(i:Nat))).map fun _=>PV.bl true) h:=fun h=>gy (f:=fun _=>.bl true) _ (fun p hp=>by
  obtain⟨i,hi,rfl⟩:=List.mem_map.mp hp;have R6:=List.mem_range.mp hi
  have a:m_ xs (0+(i:Int))=some (.int ((l[i]:Nat):Int)):=cU (by omega) (by rw[← hx,List.getElem?_map,show(0+(i:Int)).toNat=i by omega,List.getElem?_eq_getElem R6];rfl)
  have s:=Fq k l[i];simp only[EV,kD,a,ai,s])
 have al:∀h,uL [.lst (((List.range l.length).map fun i=>PV.int (0+(i:Nat))).map fun _=>PV.bl true)] h=.ok (.bl true) h:=fun h=>by have q:=EU (((List.range l.length).map fun i=>PV.int (0+(i:Nat)))) (fun _=>true) h;rw[q];simp
 have ln:((List.range l.length).map fun i=>PV.int (0+(i:Nat))).length<16777216:=by rw[List.length_map,List.length_range];omega
 have fr:cW (.bl true) []=.ok (.bl true):=rfl;simp only[EV,aJ,gS,t1,e0,e1,e2,l2,bl,tn,cp,ln,cm,al,fr]
noncomputable def Tq:PV:=.tup [.str [112,108,97,99,101],.tup [.str [97]],.str [119,111,114,100]]
noncomputable def TY:PV:=.tup [.str [112,108,97,99,101],.tup [.str [98]],.str [108,105,110,101]]
noncomputable def Zf(a b:List PV):PV:=.tup [.tup [.str [99,104,111,105,99,101],.tup [.str [97]],.tup a,.tup b]]
def oth:List (PV×PV):=[(.tup [TY,Tq],.tup [.int 0]),(.tup [Tq],.non),(Zf [] [],.tup [.int 0]),(Zf [] [TY],.tup [.int 0]),(Zf [Tq] [],.non)]
theorem GE(k:Nat):∀j:Nat,j<5→∃a b,oth[j]? =some (a,b)∧a.pure=true∧b.pure=true∧F (k+40) .unclear [a]=.ok b∧∀h,Qv b b h=.ok (.bl false) h
 |0,_=>⟨_,_,rfl,rfl,rfl,by kernel_rfl,fun h=>by kernel_rfl⟩
 |1,_=>⟨_,_,rfl,rfl,rfl,by kernel_rfl,fun h=>by kernel_rfl⟩
 |2,_=>⟨_,_,rfl,rfl,rfl,by kernel_rfl,fun h=>by kernel_rfl⟩
 |3,_=>⟨_,_,rfl,rfl,rfl,by kernel_rfl,fun h=>by kernel_rfl⟩
 |4,_=>⟨_,_,rfl,rfl,rfl,by kernel_rfl,fun h=>by kernel_rfl⟩
 |n+5,h=>absurd h (by omega)
def uM:List PV:=oth.map fun x=>.tup [x.1,x.2]
theorem sY(k:Nat)(A:j9)(hA:u9 A=true)(RX:dS A≤16777216)(hd:aO A≤23)(hk:106≤k)(more i:Int)(m:Nat)(h:List PO)(hm:h[m]? =some (.lst uM))(x0 x3 x5 x6 x9 H_ PJ:Option PV):∃y9 Ph Tn,
  kG (F k) [x0,some (.int more),some (.tup (b_ A)),x3,some (oV (Mp A 0 (fun _=>false) true)),x5,x6,some (.ref m),some (.int i),x9,H_,PJ] h=.nx [x0,some (.int more),some (.tup (b_ A)),x3,some (oV (Mp A 0 (fun _=>false) true)),x5,x6,some (.ref m),some (.int i),y9,Ph,Tn] h:=by
 have un:=uc k A hA RX (by omega) (by omega);have zn:=cx hA
 have E_:∀l,Mp A 0 (fun _=>false) true=some l→l.length≤1000:=fun l q=>by have:=fM A 0 _ _ l q;omega
 generalize Mp A 0 (fun _=>false) true=o at*;have dv:∀h,ay h (oV o)=oV o:=fun h=>bB h (dH o)
 have e9:aC 9 (aA (F k .unclear) aaw) [x0,some (.int more),some (.tup (b_ A)),x3,some (oV o),x5,x6,some (.ref m),some (.int i),x9,H_,PJ] h=.nx [x0,some (.int more),some (.tup (b_ A)),x3,some (oV o),x5,x6,some (.ref m),some (.int i),some (oV o),H_,PJ] h:=bj (by simp only[EV,ai,zn,un])
 have VG:v9 (sj (di (aB (c2 Vm (ae 4) aay)) (aB (c2 dE (ae 9) aay))) (di aaN (eP (ci (aA (F k .L_) (aa (ae 9) aaM)))))) abm aW [x0,some (.int more),some (.tup (b_ A)),x3,some (oV o),x5,x6,some (.ref m),some (.int i),some (oV o),H_,PJ] h=.nx [x0,some (.int more),some (.tup (b_ A)),x3,some (oV o),x5,x6,some (.ref m),some (.int i),some (oV o),H_,PJ] h:=by
  cases o with
  |none=>have nn:fh .non=true:=rfl;simp only[EV,oV,nn]
  |some l=>
   obtain⟨j,rfl⟩:∃j,k=j+2:=⟨k - 2,by omega⟩
   have sm:=Cf j l (E_ l rfl);have nn:=kZ l;have zo:∀h,cC h (oV (some l))=some (oV (some l),h):=fun h=>cH h (dH _);generalize oV (some l)=V at*;simp only[EV,dv,nn,ai,zo,sm]
 have m0:=Int.emod_nonneg (more / 48+i) (by decide:(5:Int)≠0);have m1:=Int.emod_lt_of_pos (more / 48+i) (by decide:(0:Int)<5);obtain⟨j,rfl⟩:∃j,k=j+40:=⟨k - 40,by omega⟩
 obtain⟨a,b,ea,pa,pb,ua,nb⟩:=GE j ((more / 48+i) % 5).toNat (by omega)
 have ax:m_ uM ((more / 48+i) % 5)=some (.tup [a,b]):=cU m0 (by unfold uM;rw[List.getElem?_map,ea];rfl)
 have dm:ay h (.ref m)=.ref m:=by show(match h[m]? with|some (.o9 q)=>q|_=>PV.ref m)=_;rw[hm]
 have ix:d7 (.ref m) (.int ((more / 48+i) % 5)) h=.ok (.tup [a,b]) h:=by
  have d1:Ru h (.ref m)=none:=by show(match h[m]? with|some (.dct kvs)=>some kvs|_=>none)=_;rw[hm]
  have d2:Q9 h (.ref m)=some uM:=by show(match h[m]? with|some (.lst xs)=>some xs|_=>none)=_;rw[hm]
  unfold d7;simp only[d1,d2,ax];rfl
 have p48:decide ((0:Int)<48∧(48:Int)<1073741824)=true:=by decide
 have p5:decide ((0:Int)<5)=true:=by decide
 have W8:ko (Nm 2 (ar (n8 10) (ar (n8 11) bv))) (c2 d7 (ae 7) (c2 aU (c2 aT (c2 bA (ae 1) (cK (.int 48))) (ae 8)) aaK)) [x0,some (.int more),some (.tup (b_ A)),x3,some (oV o),x5,x6,some (.ref m),some (.int i),some (oV o),H_,PJ] h=.nx [x0,some (.int more),some (.tup (b_ A)),x3,some (oV o),x5,x6,some (.ref m),some (.int i),some (oV o),some a,some b] h:=by simp only[EV,dm,p48,p5,ix,n8]
 have za:=fun h=>cH h pa;have da:=fun h=>bB h pa;have db:=fun h=>bB h pb;refine⟨some (oV o),some a,some b,?_⟩;unfold kG;rw[aD e9,aD VG,aD W8];simp only[EV,da,db,ai,za,ua,nb]
theorem AW(A:j9)(hA:u9 A=true)(RX:dS A≤16777216)(hd:aO A≤23)(more:Int)(h0:List PO)(hm:(∃a,h0= [a])∨∃a b,h0= [a,b])(ht:¬ (Mp A 0 (fun _=>false) true≠none∧more % 2=1∧more / 2 % 3=0))(x0 x3:Option PV):∃hh,
  (ak (aC 4 (aA (F 139 .q8) (aa (ae 2) (aa aaZ abh))))
  (ak (v9 (di aaN (di (aB abx) (aB (c2 m9 aby aac)))) abm aW)
  (ak (ko (Nm 2 (ar (n8 5) (ar (n8 6) bv))) (cN au (aa (cN au (aa aap (aa aaJ (aa aat ag)))) (aa (cN au (aa aap (aa (cN au (aa aa9 ag)) abk))) ag))))
  (ak (aC 7 (cN fg (aa (cN au (aa (cN au (aa (ae 6) aaR)) aaY)) (aa (cN au (aa (cN au aaR) abh)) (aa (cN au (aa (cN au (aa (cN au (aa aaf (aa aaJ (aa aa1 (aa aa1 ag))))) ag)) aaY)) ag)))))
  (ak (bY (cM cz ba (ae 7) (aa (cN au (aa (cN au (aa (cN au (aa aaf (aa aaJ (aa aa1 (aa (cN au (aa (ae 6) ag)) ag))))) ag)) aaY)) ag)))
  (ak (bY (cM cz ba (ae 7) (aa (cN au (aa (cN au (aa (cN au (aa aaf (aa aaJ (aa (cN au aaR) (aa aa1 ag))))) ag)) abh)) ag)))
  (ak (dD (bD (aa aag ag)) (n8 8) (kG (F 139)))
  abF))))))) [x0,some (.int more),some (.tup (b_ A)),x3,none,none,none,none,none,none,none,none] h0=.rt (.bl true) hh:=by
 have wt:=BQ 139 A hA (by omega) (by omega);have zn:=cx hA;have zl:∀h,cC h (.lst [])=some (.lst [],h):=fun h=>fQ h rfl;have zz:∀h,cC h .non=some (.non,h):=fun h=>rfl
 have e4:aC 4 (aA (F 139 .q8) (aa (ae 2) (aa aaZ abh))) [x0,some (.int more),some (.tup (b_ A)),x3,none,none,none,none,none,none,none,none] h0=.nx [x0,some (.int more),some (.tup (b_ A)),x3,some (oV (Mp A 0 (fun _=>false) true)),none,none,none,none,none,none,none] h0:=bj (by simp only[EV,ai,zn,zl,zz,wt])
 have p2:decide ((0:Int)<2)=true:=by decide
 have V2:decide ((0:Int)<2∧(2:Int)<1073741824)=true:=by decide
 have p3:decide ((0:Int)<3)=true:=by decide
 have e5:v9 (di aaN (di (aB abx) (aB (c2 m9 aby aac)))) abm aW [x0,some (.int more),some (.tup (b_ A)),x3,some (oV (Mp A 0 (fun _=>false) true)),none,none,none,none,none,none,none] h0=.nx [x0,some (.int more),some (.tup (b_ A)),x3,some (oV (Mp A 0 (fun _=>false) true)),none,none,none,none,none,none,none] h0:=by
  cases q:Mp A 0 (fun _=>false) true with
  |none=>have nn:fh .non=true:=rfl;simp only[EV,oV,nn]
  |some l=>
   have dv:∀h,ay h (oV (some l))=oV (some l):=fun h=>bB h (dH _);have nn:=kZ l;generalize oV (some l)=V at*
   by_cases q1:more % 2=1
   ·have q2:¬ more / 2 % 3=0:=fun z=>ht ⟨by rw[q];simp,q1,z⟩;simp only[EV,dv,nn,cP,p2,V2,p3,q1,q2,decide_true,decide_false]
   ·simp only[EV,dv,nn,cP,p2,q1,decide_false]
 have e6:∀(o:Option PV),ko (Nm 2 (ar (n8 5) (ar (n8 6) bv))) (cN au (aa (cN au (aa aap (aa aaJ (aa aat ag)))) (aa (cN au (aa aap (aa (cN au (aa aa9 ag)) abk))) ag))) [x0,some (.int more),some (.tup (b_ A)),x3,o,none,none,none,none,none,none,none] h0=.nx [x0,some (.int more),some (.tup (b_ A)),x3,o,some Tq,some TY,none,none,none,none,none] h0:=fun o=>rfl
 obtain⟨m,h1,hm1,e7⟩:∃m h1,h1[m]? =some (.lst uM)∧∀(o:Option PV)(g:Sx),(ak (aC 7 (cN fg (aa (cN au (aa (cN au (aa (ae 6) aaR)) aaY)) (aa (cN au (aa (cN au aaR) abh)) (aa (cN au (aa (cN au (aa (cN au (aa aaf (aa aaJ (aa aa1 (aa aa1 ag))))) ag)) aaY)) ag)))))
  (ak (bY (cM cz ba (ae 7) (aa (cN au (aa (cN au (aa (cN au (aa aaf (aa aaJ (aa aa1 (aa (cN au (aa (ae 6) ag)) ag))))) ag)) aaY)) ag)))
  (ak (bY (cM cz ba (ae 7) (aa (cN au (aa (cN au (aa (cN au (aa aaf (aa aaJ (aa (cN au aaR) (aa aa1 ag))))) ag)) abh)) ag))) g))) [x0,some (.int more),some (.tup (b_ A)),x3,o,some Tq,some TY,none,none,none,none,none] h0=g [x0,some (.int more),some (.tup (b_ A)),x3,o,some Tq,some TY,some (.ref m),none,none,none,none] h1:=by
  rcases hm with⟨a,rfl⟩|⟨a,b,rfl⟩
  ·exact⟨1,[a,.lst uM],rfl,fun o g=>rfl⟩
  ·exact⟨2,[a,b,.lst uM],rfl,fun o g=>rfl⟩
 obtain⟨y9,Ph,Tn,t0⟩:=sY 139 A hA RX hd (by decide) more (0+((0:Nat):Int)) m h1 hm1 x0 x3 (some Tq) (some TY) none none none;obtain⟨z9,Yd,z11,t1⟩:=sY 139 A hA RX hd (by decide) more (0+((1:Nat):Int)) m h1 hm1 x0 x3 (some Tq) (some TY) y9 Ph Tn;refine⟨h1,?_⟩;rw[aD e4,aD e5,aD (e6 _),e7];generalize oV (Mp A 0 (fun _=>false) true)=V at*;have rg:bD (aa aag ag) [x0,some (.int more),some (.tup (b_ A)),x3,some V,some Tq,some TY,some (.ref m),none,none,none,none] h1=.ok [.int (0+((0:Nat):Int)),.int (0+((1:Nat):Int))] h1:=rfl
 have fr:dD (bD (aa aag ag)) (n8 8) (kG (F 139)) [x0,some (.int more),some (.tup (b_ A)),x3,some V,some Tq,some TY,some (.ref m),none,none,none,none] h1=.nx [x0,some (.int more),some (.tup (b_ A)),x3,some V,some Tq,some TY,some (.ref m),some (.int (0+((1:Nat):Int))),z9,Yd,z11] h1:=by unfold dD;rw[rg];refine(cu (g:=n8 8) (p:=.int (0+((0:Nat):Int))) (r:=[.int (0+((1:Nat):Int))]) rfl t0).trans ?_;exact cu (g:=n8 8) (p:=.int (0+((1:Nat):Int))) (r:=[]) (ρ:=[x0,some (.int more),some (.tup (b_ A)),x3,some V,some Tq,some TY,some (.ref m),some (.int (0+((0:Nat):Int))),y9,Ph,Tn]) rfl t1
 rw[aD fr];rfl
theorem AV:∀ns:List Int,ns.length≤63→F 140 .law [.Mv (ns.map PV.int)]=.ok (.bl true):=fun ns _=>by
 obtain⟨cs,hc,ec⟩:=Eb ns;have c1:F 139 .u5 [.Mv (ns.map PV.int),.int 1]=.ok (.int (ns.getD 1 0)):=qp 138 ns 1;have c0:F 139 .u5 [.Mv (ns.map PV.int),.int 0]=.ok (.int (ns.getD 0 0)):=qp 138 ns 0;generalize ns.getD 1 0=more at*;generalize ns.getD 0 0=first at*
 obtain⟨A,ls,n',g,td,l1,l2,ef⟩:=DQ 127 cs hc first (decide (more % 2=1))
 have gw:=g.w;have gd:=g.d;have gl:=g.l
 have gp:(PV.Mv (ns.map PV.int)).pure=true:=by
  rw[PV.pure]
  have:∀l:List Int,aI (l.map PV.int)=true:=fun l=>by
   induction l with
   |nil=>rfl
   |cons a r ih=>rw[List.map_cons,aI,ih];rfl
  exact this ns
 have zg:∀h,cC h (.Mv (ns.map PV.int))=some (.Mv (ns.map PV.int),h):=fun h=>cH h gp
 have e1:aC 1 (aA (F 139 .u5) (aa (ae 0) (aa aad ag))) [some (.Mv (ns.map PV.int)),none,none,none,none,none,none,none,none,none,none,none] []=.nx [some (.Mv (ns.map PV.int)),some (.int more),none,none,none,none,none,none,none,none,none,none] []:=bj (by generalize ns.map PV.int=l at*;simp only[EV,ai,zg,c1])
 have cf:=ib (t:=[]) (bQ cs) (rest:=[.int first,.bl (decide (more % 2=1))]) rfl ef (by simp[PV.pure,aI,aQ A gw,ce]);have p2:decide ((0:Int)<2)=true:=by decide
 have cf':gR (L 139 .M5) [.lst (cs.map PV.int),.ref 0,.int first,.bl (decide (more % 2=1))] [.lst [.int 0,.int 24]]=.ok (.tup [.tup (b_ A),.lst (ls.map PV.str)]) [o8 n']:=cf
 have e2:ko abv (bp (L 139 .M5) (aa (ji (ae 0) (dW aag) (dW (cK (.int 34)))) (aa (cN fg (aa aac (aa abg ag))) (aa (aA (F 139 .u5) (aa (ae 0) abz)) (aa abx ag))))) [some (.Mv (ns.map PV.int)),some (.int more),none,none,none,none,none,none,none,none,none,none] []=.nx [some (.Mv (ns.map PV.int)),some (.int more),some (.tup (b_ A)),some (.lst (ls.map PV.str)),none,none,none,none,none,none,none,none] [o8 n']:=by generalize ns.map PV.int=l at*;simp only[EV,Io,ec,ai,zg,c0,cP,p2,cf',n8]
 have p3:decide ((0:Int)<3)=true:=by decide
 have V2:decide ((0:Int)<2∧(2:Int)<1073741824)=true:=by decide
 have p6:decide ((0:Int)<6∧(6:Int)<1073741824)=true:=by decide
 have fin:∀(B:j9)(h0:List PO),u9 B=true→dS B≤16777216→aO B≤23→((∃a,h0= [a])∨∃a b,h0= [a,b])→¬ (Mp B 0 (fun _=>false) true≠none∧more % 2=1∧more / 2 % 3=0)→
   v9 (aB (c2 U5 aby aac)) (aC 2 (bp (L 139 .J2) (aa (ae 2) (aa (c2 bA (ae 1) (cK (.int 6))) (aa (cN fg abz) ag))))) aW [some (.Mv (ns.map PV.int)),some (.int more),some (.tup (b_ A)),some (.lst (ls.map PV.str)),none,none,none,none,none,none,none,none] [o8 n']=.nx [some (.Mv (ns.map PV.int)),some (.int more),some (.tup (b_ B)),some (.lst (ls.map PV.str)),none,none,none,none,none,none,none,none] h0→F 140 .law [.Mv (ns.map PV.int)]=.ok (.bl true):=fun B h0 w1 w2 w3 hm ht e3=>by
  obtain⟨hh,er⟩:=AW B w1 w2 w3 more h0 hm ht (some (.Mv (ns.map PV.int))) (some (.lst (ls.map PV.str)))
  have bd:qx (F 139) (L 139) [some (.Mv (ns.map PV.int)),none,none,none,none,none,none,none,none,none,none,none] []=.rt (.bl true) hh:=by unfold qx;rw[aD e1,aD e2,aD e3];exact er
  exact dj (f:=qx (F 139) (L 139)) (np:=1) (n:=12) (ps:=[.Mv (ns.map PV.int)]) rfl bd rfl
 by_cases q:0<more / 2 % 3
 ·obtain⟨B,s',eb,bt⟩:=Eg 139 (more / 6) A g (by omega) 0;have bw:=bt.w;have bd:=bt.d;have bl:=bt.l;have cb:gR (L 139 .J2) [.tup (b_ A),.int (more / 6),.ref 1] [o8 n',.lst [.int 0]]=.ok (.tup (b_ B)) [o8 n',Np s']:=xm (h:=[o8 n',Np 0]) (i:=1) (PV.t_ (aQ A gw)) (q:=.int (more / 6)) rfl rfl (fV 0) eb (PV.t_ (aQ B bw)) (fV s');refine fin B [o8 n',Np s'] bw (by omega) (by omega) (.inr ⟨_,_,rfl⟩) (fun z=>by omega) ?_;have dg:∀h,ay h (.Mv (ns.map PV.int))= .Mv (ns.map PV.int):=fun h=>rfl;generalize PV.Mv (ns.map PV.int)=G at*;simp only[EV,p3,V2,p6,q,decide_true,cb]
 ·refine fin A [o8 n'] gw gl gd (.inl ⟨_,rfl⟩) (fun z=>?_) ?_
  ·exact z.1 (kK A (td (decide_eq_true z.2.1)) 0 _ _)
  ·generalize PV.Mv (ns.map PV.int)=G at*;simp only[EV,p3,V2,q,decide_false]
end Sv
namespace PySem.W.Fast
def tw11808689788740969475:=True
def tw1649790223182663703:=True
def tw9521807460314506615:=True
def tw16383504273510857440:=True
def tw6675859748092094031:=True
def tw10488906239852854922:=True
def tw7430645007113485715:=True
def tw14162344184424200982:=True
def tw1082332816128926232:=True
def tw9711672240736246458:=True
def tw5918239657466423141:=True
def tw13579642841599428770:=True
def tw17992124817556659129:=True
def tw3386320809188657170:=True
def tw10515511100591468742:=True
def tw2145655458204257072:=True
def tw4135042708976608659:=True
def tw9953210658907880390:=True
def tw4259880777410983707:=True
def tw1670727326818474123:=True
def tw16298599690255453798:=True
def tw1369790281010000164:=True
def tw6191756614828105202:=True
def tw417591872250010285:=True
def tw4568692214673576562:=True
def tw4633609121511692165:=True
def tw10302030378731205049:=True
def tw12583675254641404073:=True
def tw15495112356703085101:=True
def tw17910989510880978260:=True
def tw4541293250719102716:=True
def tw15852392807927101193:=True
def tw12125219664553280234:=True
def tw11998994525026882250:=True
def tw5799447332953915982:=True
def tw5416979447257736774:=True
def tw2894283936147420632:=True
def tw13488746029553224032:=True
def tw65178038985197194:=True
def tw7651407165223005362:=True
def tw10590898323272023920:=True
def tw8991773550629057658:=True
def tw648722855351835453:=True
def tw11227916846969483497:=True
def tw5631240386062155477:=True
def tw15118494386011303407:=True
def tw15505922473238256430:=True
def tw126161954246276273:=True
def tw8231070732559133014:=True
def tw6044049578898881383:=True
def tw5153418615205508546:=True
def tw5411470981149967626:=True
def tw12749187669746913865:=True
def tw7145602786214764682:=True
def tw1906963458578511324:=True
def tw13497025099000316025:=True
def tw989075462043595487:=True
def tw10811884621991807977:=True
def tw5141200054473913378:=True
def tw8425093921223255471:=True
def tw18020918470096029491:=True
def tw6584609700261797879:=True
def tw14779464339125659859:=True
def tw16122921966233950067:=True
def tw3712878735287772854:=True
def tw17190945694210713747:=True
def tw15768110141137075118:=True
def tw2839869612407092977:=True
def tw5961547452869255983:=True
def tw6898315503286708498:=True
def tw12483255726233054592:=True
def tw11632475331421906189:=True
def tw10828098212256156221:=True
def tw3967429482393517119:=True
def tw4908873684303858130:=True
def tw7340182709089962847:=True
def tw9264240537444401378:=True
def tw14501464250551695822:=True
def tw11692756638685572429:=True
def tw1054998756831954649:=True
def tw9866066236587515779:=True
def tw13637215113645222326:=True
def tw13918866839620538300:=True
def tw3864692345171359515:=True
def tw2266454613348765033:=True
def tw14309909668436081413:=True
def tw17505666136389843327:=True
def tw6774752893137485135:=True
def tw10582790038147099992:=True
def tw13913545225774748624:=True
def tw16585656448616292907:=True
def tw597809022156012226:=True
def tw772760844152918716:=True
def tw5439789598793562829:=True
def tw3363110297649675440:=True
def tw7461559263526177450:=True
def tw13679516442290446285:=True
def tw14845573130110240998:=True
def tw1109625751384311226:=True
def tw751650492868522441:=True
def tw8310227201937736891:=True
def tw18445881427794976766:=True
def tw3295125945146317110:=True
def tw5863248143556487687:=True
def tw15691480162617555664:=True
def tw9484135961940014039:=True
def tw958650628952589889:=True
def tw10974228054670898797:=True
def tw4067717074361561899:=True
def tw17564233784628609632:=True
def tw12593304333920155139:=True
def tw10104352931479301226:=True
def tw13907020828206580512:=True
def tw2845260525440240918:=True
def tw194315184311697637:=True
def tw13646094527394536472:=True
def tw1917734844047774691:=True
def tw16627738594282207574:=True
def tw10852405890744593227:=True
def tw832276846195197628:=True
def tw16672144557193917297:=True
def tw17381679048830462422:=True
def tw16641317927372802870:=True
def tw4975042767329521271:=True
def tw13384720749277133143:=True
def tw3809973687546566714:=True
def tw17361701598901598261:=True
def tw3069400224306990457:=True
def tw14619558371465817345:=True
def tw18402520738709401033:=True
def tw10774362486507520266:=True
def tw13475341276720639816:=True
def tw14969619991068523469:=True
def tw12419210017717345664:=True
def tw10453395065289112842:=True
def tw3926521027823745631:=True
def tw8648888168554056857:=True
def tw3540993684708879370:=True
def tw7423379691181223260:=True
def tw8245104448400563495:=True
def tw1481781299780833190:=True
def tw5011736437914958752:=True
def tw16658392850202488061:=True
def tw1032466203432269236:=True
def tw17076484894157245606:=True
def tw8788149403887331729:=True
def tw14561667976458676300:=True
def tw3898783305398473423:=True
def tw4116341347063149158:=True
def tw6592526910822710627:=True
def tw8706399251987015701:=True
def tw3204468164445053949:=True
def tw11326618844570663006:=True
def tw3722168636974836488:=True
def tw9495894557739484872:=True
def tw15193524936503165890:=True
def tw9723616559206435157:=True
def tw110174850899980774:=True
def tw4807677394294936900:=True
def tw1849918826160374321:=True
def tw12405340387996498230:=True
def tw4105729644448883987:=True
def tw14515437236759786656:=True
def tw14886835283118447091:=True
def tw650591493530711432:=True
def tw18208738222578045104:=True
def tw3274824122286368081:=True
def tw14783441523339907864:=True
def tw13173106523335229361:=True
def tw8697513081779699524:=True
def tw6649781404205832694:=True
def tw1452471392583182694:=True
def tw14889547218383516712:=True
def tw7099221739899109537:=True
def tw15681192402253013734:=True
def tw5044145630233006713:=True
def tw2864660554210600246:=True
def tw14375653383571120844:=True
def tw1800682262963631729:=True
def tw7512564427825563124:=True
def tw3548515869504451512:=True
def tw13356317003198544772:=True
def tw12177031298786192587:=True
def tw12507358783443386151:=True
def tw384956788888947255:=True
def tw9731129422755366475:=True
def tw14475581648543318022:=True
def tw2168966540147105621:=True
def tw906655444975400971:=True
def tw15089391565994348787:=True
def tw10026351163739476416:=True
def tw15295339191726391644:=True
def tw2525942492798399211:=True
def tw6568474117439600627:=True
def tw9227867156183548363:=True
def tw13456533843990531968:=True
def tw15108442693651126953:=True
def tw8245411620772654027:=True
def tw11338671737449543569:=True
def tw16549840787564196270:=True
def tw11379092212909034303:=True
def tw6536611032905359539:=True
def tw11979433742216302111:=True
def tw6571008554566648222:=True
def tw17995482903577376923:=True
def tw15241619546378021446:=True
def tw13059881103858255285:=True
def tw7779569409292931555:=True
def tw1688178392316818627:=True
def tw7659470937805847249:=True
def tw942021556344568603:=True
def tw14431628625336201848:=True
def tw13134423397249373845:=True
def tw16458776403708595755:=True
def tw8944660763333144454:=True
def tw8647170089751147702:=True
def tw2610316441260820045:=True
def tw11240100832076135968:=True
def tw2791635619926644116:=True
def tw12630710595409888347:=True
def tw15214591708813258209:=True
def tw13199523556659220555:=True
def tw15670567075856184500:=True
def tw18246764488923728253:=True
def tw13941618049766912192:=True
def tw13842943395439219361:=True
def tw12653128501431920134:=True
def tw10006258973218108603:=True
def tw17730207962948527179:=True
def tw11856330028112622119:=True
def tw17416910278159355844:=True
def tw2782456573813669217:=True
def tw4479712628862700250:=True
def tw10678787113461092885:=True
def tw14482110139442806987:=True
def tw9541077162361556203:=True
def tw14087364661059772566:=True
def tw14939788328383349260:=True
def tw9247386990253364654:=True
def tw17543244538641158580:=True
def tw13649600791537114384:=True
def tw1486712358811018065:=True
def tw9927379775793169315:=True
def tw14798310551511669629:=True
def tw2078848954961794386:=True
def tw15858217105881860940:=True
def tw4272220193387613420:=True
def tw4577691677707076611:=True
def tw10005623029146825018:=True
def tw7539508951734594571:=True
def tw13942144307012417422:=True
def tw10836359654955581413:=True
def tw3965563083201109157:=True
def tw16335628280513990911:=True
def tw2090501599834397823:=True
def tw6763256109096669705:=True
def tw7329647267974676420:=True
def tw6399219374181865186:=True
def tw8250757069137358423:=True
def tw13393289764570976896:=True
def tw3642425674727461557:=True
def tw12008676176883461528:=True
def tw6708904238032392355:=True
def tw17159668909351260409:=True
def tw8222896407623673862:=True
def tw12470504664518408513:=True
def tw5896892107756967043:=True
def tw9142851596686829418:=True
def tw5412299719017240013:=True
def tw3090796879532141943:=True
def tw837635144527035610:=True
def tw774239779665792201:=True
def tw15863087504300936147:=True
def tw15563388924139599547:=True
def tw1399938580154198551:=True
def tw1157438090982917550:=True
def tw14026759923255263815:=True
def tw18372868067027091:=True
def tw925727596589901534:=True
def tw14653529854157432192:=True
def tw15063800874623805188:=True
def tw12219210422518060802:=True
def tw2755509795981189890:=True
def tw17239208577350295649:=True
def tw592745978910056753:=True
def tw1698079343905778694:=True
def tw7476812053189766814:=True
def tw15399160846505201083:=True
def tw12142206698032187523:=True
def tw1705985372334494503:=True
def tw15920507927581878917:=True
def tw122874248386165459:=True
def tw3660173792677358271:=True
def tw14266736682898606742:=True
def tw6636085446722767982:=True
def tw281930991631451316:=True
def tw7796297343200888516:=True
def tw7545421769914768668:=True
def tw14143156453608523997:=True
def tw7021954820664090326:=True
def tw4014750851501736744:=True
def tw4722831286235864672:=True
def tw16062292075871243712:=True
def tw4741519384732887464:=True
def tw13248222586635489866:=True
def tw13331571954458059470:=True
def tw14074087425504958354:=True
def tw11896316881974663324:=True
def tw12359482638704197048:=True
def tw11767834199060119412:=True
def tw726541767531467391:=True
def tw9428389218650885853:=True
def tw176613201089665638:=True
def tw8385108807303973991:=True
def tw16314101278503670305:=True
def tw11093869292510622676:=True
def tw13663199181179139662:=True
def tw12722113463917448509:=True
def tw9727847344582220911:=True
def tw15171138197407255639:=True
def tw5547796039339328552:=True
def tw539719866668209727:=True
def tw17621769333181033815:=True
def tw17303213456620028547:=True
def tw568162267117752052:=True
def tw13184461745274558042:=True
def tw14809413873090176278:=True
def tw2727372284314208363:=True
def tw9630407533959226039:=True
def tw10297022613899945340:=True
def tw10420230081839036266:=True
def tw7125592665938699232:=True
def tw5402800521239920774:=True
def tw12583836805317067792:=True
def tw16455487578141458739:=True
def tw4192414808704144834:=True
def tw8380397868205065460:=True
def tw15047084249599719560:=True
def tw4172391879009793293:=True
def tw9998318082043916276:=True
def tw16481464782585986518:=True
def tw6896702879663400398:=True
def tw4364816553470605903:=True
def tw181564893510304361:=True
def tw11856853156059935066:=True
def tw15160594330052465625:=True
def tw15029784084882297635:=True
def tw9085592272754901066:=True
def tw5275243146633417615:=True
def tw6127119756514917113:=True
def tw14648261306437092316:=True
def tw16096999217051206138:=True
def tw13250785116120559168:=True
def tw15964720586808822284:=True
def tw11205656491737667834:=True
def tw7750735290754202787:=True
def tw8082437812977776685:=True
def tw8302080570261284856:=True
def tw9565275288863831137:=True
def tw3710736199847194301:=True
def tw4689437360629212801:=True
def tw1945083124078977802:=True
def tw986517460440161991:=True
def tw14445493432902629884:=True
def tw5573593956675404865:=True
def tw2797113033058309956:=True
def tw9609718329222871229:=True
def tw5854829118283953055:=True
def tw17268792777945238379:=True
def tw2170353758822072210:=True
def tw15146721742469756806:=True
def tw5088912942503055290:=True
def tw6864186308915012701:=True
def tw8258673001702663161:=True
def tw11599120061826089662:=True
def tw4702517763053093966:=True
def tw16974219453580183286:=True
def tw11983017583581214978:=True
def tw2274830232675680869:=True
def tw17284659635832254002:=True
def tw18359693395823132402:=True
def tw1896824899195759681:=True
def tw13572500519991390302:=True
def tw11943736954189170970:=True
def tw10103321424165167461:=True
def tw14414940381662921954:=True
def tw7380757011557540190:=True
def tw15433076765957541422:=True
def tw13854645140828132941:=True
end PySem.W.Fast
open PySem PySem.W PyProof.Rows
set_option maxRecDepth 100000 in
set_option maxHeartbeats 0 in
theorem PySem.Challenge.cw_formsmith_k15_clear_or_not_holds : PySem.Challenge.rw_formsmith_k15_clear_or_not.Holds := by
  w_on; o_law; k_head; (case hw => w_witness2)
  k_fill
  refine L3.AU (l := PySem.Challenge.rw_formsmith_k15_clear_or_not) (k := 140) (x := "_law_script") rfl rfl ⟨rfl, by decide, by decide, rfl⟩ (fun w h Y => W.kIn_of Y) ?F
  case F =>
    intro w mg fa h KX G WT
    refine' Sv.Hy Sv.AV KX G WT ?Rw ?Rm ?Rq ?Rj ?Rf ?Oo ?Ow ?Ot ?Qn ?Qf ?Qj ?Qd ?Qa ?Mx ?MK ?MF ?Qm ?Qe ?Qi ?Qc ?P_ ?Mw ?MJ ?Mz ?QW ?QG ?QL ?QF ?QD ?Nq ?NK ?Ny ?Rx ?Rn ?Rr ?Rk ?Rg ?Oq ?Oz ?Ou ?hf ?MN ?J4 ?G6 ?G8 ?OD ?J3 ?Mg ?Mf ?hn
    (case Rw=>k_is);(case Rm=>k_is);(case Rq=>k_is);(case Rj=>k_is);(case Rf=>k_is);(case Oo=>k_is);(case Ow=>k_is);(case Ot=>k_is);(case Qn=>k_is);(case Qf=>k_is);(case Qj=>k_is);(case Qd=>k_is);(case Qa=>k_is);(case Mx=>k_is);(case MK=>k_is);(case MF=>k_is);(case Qm=>k_is);(case Qe=>k_is);(case Qi=>k_is);(case Qc=>k_is);(case P_=>k_is);(case Mw=>k_is);(case MJ=>k_is);(case Mz=>k_is);(case QW=>k_is);(case QG=>k_is);(case QL=>k_is);(case QF=>k_is);(case QD=>k_is);(case Nq=>k_is);(case NK=>k_is);(case Ny=>k_is);(case Rx=>k_is);(case Rn=>k_is);(case Rr=>k_is);(case Rk=>k_is);(case Rg=>k_is);(case Oq=>k_is);(case Oz=>k_is);(case Ou=>k_is)
    (case hf => intro f; cases f <;> (refine' Sv.fq (Ad := Sv.Zk _ _ _) ?fa ?fl ?fc ?fk ?fb; (case fa => dsimp only [Sv.Zk]; first | k_is | ((repeat' apply And.intro) <;> k_is)); (case fl=>k_is); (case fc=>k_is); (case fk=>k_is); (case fb => intro _ _ _ _ _ _ us hl; first | (obtain rfl := Sv.ZM hl; rfl) | (obtain ⟨_, rfl⟩ := Sv.ZK hl; rfl) | (obtain ⟨_, _, rfl⟩ := Sv.ZJ hl; rfl) | (obtain ⟨_, _, _, rfl⟩ := Sv.ZG hl; rfl) | (obtain ⟨_, _, _, _, rfl⟩ := Sv.ZF hl; rfl) | (obtain ⟨_, _, _, _, _, rfl⟩ := Sv.ZD hl; rfl) | (obtain ⟨_, _, _, _, _, _, rfl⟩ := Sv.Zz hl; rfl) | (obtain ⟨_, _, _, _, _, _, _, rfl⟩ := Sv.us7 hl; rfl))))
    (case MN=>k_is);(case J4=>k_is);(case G6=>k_is);(case G8=>k_is);(case OD=>k_is);(case J3=>k_is);(case Mg=>k_is);(case Mf=>k_is)
    (case hn => intro i; cases i <;> k_is)
