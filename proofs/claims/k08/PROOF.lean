import PyProof.Rows.All
import Wide.All
import OpenK.AllK
import Wide.FinOn
import Lean
import PyProof.EqAt
import PyProof.EqKinds
import PyProof.TupleCall
import PyProof.StationsW
import KE.KTryMore
import PyProof.ExcAttrAll.ValueError
import PyProof.ExcClass3
import PyProof.InstStoreFacts
import KE.KDictList
import KE.KEqDict
import KE.KDictSum
import PyProof.Rows.SortStr
import PyProof.Draws
import PyProof.EnumMake
import KE.KRevIter
import PyProof.TupleOps
import PyProof.Rows.Tup
import PyProof.ListNew
import PyProof.ListStr
import PyProof.CollectWalk
import KE.KDictOf
import PyProof.AttrMissHeap
import KE.LcSums
import PyProof.StrCalls
import PySem.Challenge.RW_formsmith_k08_bound_names
noncomputable section
set_option Elab.async false
set_option linter.all false
set_option maxRecDepth 100000
namespace L2
open PySem PySem.Spec PyProof.Rows
theorem ab1(a b:Bool):((a&&b)=true)=(a=true∧b=true):=Bool.and_eq_true a b
theorem ab2(n:Nat):n≤n:=Nat.le_refl n
abbrev Key:=Sum Int Str
noncomputable def qC:Key→Value→Bool
 |.inl k,v=>Value.isInt k v
 |.inr x,v=>Value.isStrOf x v
noncomputable def LG(w:World):Key→Int
 |.inl k=>hashInt k
 |.inr x=>hashStr w x
theorem bQ:∀{k:Key}{v:Value},qC k v=true→(∃i t,k=Sum.inl i∧v=Value.int i t)∨(∃x t,k=Sum.inr x∧v=Value.str x t)
 |.inl i,v,h=>by obtain⟨t,e⟩:=Value.isInt_shape (k:=i) (v:=v) h;exact .inl ⟨i,t,rfl,e⟩
 |.inr x,v,h=>by obtain⟨t,e⟩:=Value.isStrOf_shape (x:=x) (v:=v) h;exact .inr ⟨x,t,rfl,e⟩
theorem zA(i:Int)(t:Tok):qC (.inl i) (.int i t)=true:=by simp[qC,Value.isInt]
theorem zy(x:Str)(t:Tok):qC (.inr x) (.str x t)=true:=by simp[qC,Value.isStrOf]
theorem HQ(a b:Int):decide ((Sum.inl a:Key)=Sum.inl b)=(a==b):=by
 by_cases e:a=b
 ·subst e;simp
 ·have h:¬ (Sum.inl a:Key)=Sum.inl b:=fun q=>e (Sum.inl.inj q);rw[decide_eq_false h];exact(beq_eq_false_iff_ne.mpr e).symm
theorem HM(a b:Str):decide ((Sum.inr a:Key)=Sum.inr b)=decide (a=b):=by
 by_cases e:a=b
 ·subst e;simp
 ·have h:¬ (Sum.inr a:Key)=Sum.inr b:=fun q=>e (Sum.inr.inj q);rw[decide_eq_false h,decide_eq_false e]
theorem HP(a:Int)(b:Str):decide ((Sum.inl a:Key)=Sum.inr b)=false:=decide_eq_false (fun q=>nomatch q)
theorem HN(a:Str)(b:Int):decide ((Sum.inr a:Key)=Sum.inl b)=false:=decide_eq_false (fun q=>nomatch q)
def bW(prog:Program)(w:World):PySem.KeyKind prog w Key where
 is:=qC
 hash:=LG w
 inj:=fun v a b ha hb=>by
  rcases bQ ha with⟨i,t,rfl,rfl⟩|⟨x,t,rfl,rfl⟩
  ·rcases bQ hb with⟨j,u,rfl,e⟩|⟨y,u,rfl,e⟩
   ·injection e with e1 _;rw[e1]
   ·exact nomatch e
  ·rcases bQ hb with⟨j,u,rfl,e⟩|⟨y,u,rfl,e⟩
   ·exact nomatch e
   ·injection e with e1 _;rw[e1]
 byValue:=fun k v h=>by rcases bQ h with⟨i,t,rfl,rfl⟩|⟨x,t,rfl,rfl⟩<;>rfl
 pyHash:=fun hv h=>by
  rcases bQ hv with⟨i,t,rfl,rfl⟩|⟨x,t,rfl,rfl⟩
  ·exact wpAny_pyHash_int h
  ·exact wpAny_pyHash_str h
 eqBool:=fun hu hv h=>by
  rcases bQ hu with⟨i,t,rfl,rfl⟩|⟨x,t,rfl,rfl⟩
  ·rcases bQ hv with⟨j,u,rfl,rfl⟩|⟨y,u,rfl,rfl⟩
   ·rw[HQ]at h;exact wpAny_eqBool_int h
   ·rw[HP]at h;exact SeqAt.EqAt.int_str i t y u _ _ _ _ h
  ·rcases bQ hv with⟨j,u,rfl,rfl⟩|⟨y,u,rfl,rfl⟩
   ·rw[HN]at h;exact SeqAt.EqAt.str_int x t j u _ _ _ _ h
   ·rw[HM]at h;exact wpAny_eqBool_str h
 «strs» :=fun k x t v h=>by
  rcases bQ h with⟨i,u,rfl,e⟩|⟨y,u,rfl,e⟩
  ·exact nomatch e
  ·injection e with e1 _
   subst e1
   cases v<;>rfl
theorem uF(prog:Program)(w:World)(i:Int)(t:Tok):(bW prog w).is (.inl i) (.int i t)=true:=zA i t
theorem uE(prog:Program)(w:World)(x:Str)(t:Tok):(bW prog w).is (.inr x) (.str x t)=true:=zy x t
inductive V where
 |non|bl (b:Bool)|int (i:Int)|str (x:Str)|YC (b:Array UInt8)|flt (b:UInt64)|ref (a:Addr)|ty (n:String)
 deriving DecidableEq
def bn:V→Value→Prop
 |.non,u=>u=Value.none
 |.bl b,u=>u=Value.bool b
 |.int i,u=>∃t,u=Value.int i t
 |.str x,u=>∃t,u=Value.str x t
 |.YC b,u=>∃t,u=Value.bytes b t
 |.flt b,u=>∃t,u=Value.float b t
 |.ref a,u=>u=Value.ref a
 |.ty n,u=>u=Value.type n
abbrev aW:List V→List Value→Prop:=Paired bn
theorem aW.length{xs:List V}{us:List Value}(r:aW xs us):xs.length=us.length:=Paired.length r
theorem aW.get:∀{xs:List V}{us:List Value}{i:Nat}{x:V},aW xs us→xs[i]? =some x→∃u,us[i]? =some u∧bn x u
 |_,_,_,_,.nil,e=>by simp at e
 |_,_,0,_,.cons r _,e=>by simp at e;subst e;exact⟨_,rfl,r⟩
 |_,_,i+1,x,.cons _ t,e=>by obtain⟨u,h1,h2⟩:=aW.get (i:=i) (x:=x) t (by simpa using e);exact⟨u,by simpa using h1,h2⟩
theorem aW.set{x:V}{u:Value}(r:bn x u):∀{xs:List V}{us:List Value}(i:Nat),aW xs us→aW (xs.set i x) (us.set i u)
 |_,_,_,.nil=>.nil
 |_,_,0,.cons _ t=>.cons r t
 |_,_,i+1,.cons q t=>.cons q (aW.set r i t)
theorem aW.append:∀{xs ys:List V}{us ws:List Value},aW xs us→aW ys ws→aW (xs++ys) (us++ws)
 |_,_,_,_,.nil,s=>s
 |_,_,_,_,.cons r t,s=>.cons r (aW.append t s)
theorem aW.take:∀{xs:List V}{us:List Value}(n:Nat),aW xs us→aW (xs.take n) (us.take n)
 |_,_,0,_=>.nil
 |_,_,_+1,.nil=>.nil
 |_,_,n+1,.cons r t=>.cons r (aW.take n t)
theorem aW.drop:∀{xs:List V}{us:List Value}(n:Nat),aW xs us→aW (xs.drop n) (us.drop n)
 |_,_,0,r=>r
 |_,_,_+1,.nil=>.nil
 |_,_,n+1,.cons _ t=>aW.drop n t
def pL:Option V→Option Value→Prop
 |some v,some u=>bn v u
 |none,none=>True
 |_,_=>False
def KV{κ:Type}:List (κ×V)→List (κ×Value)→Prop:=Paired fun(p:κ×V)(q:κ×Value)=>p.1=q.1∧bn p.2 q.2
noncomputable def kV:Key→V
 |.inl i=>.int i
 |.inr x=>.str x
inductive HO where
 |lst (xs:List V)
 |tup (xs:List V)
 |dK (kvs:List (Key×V))|dT (kvs:List (List Key×V))
 |set (S:Int→Bool) (n:Nat)
 |ins (C dx:Addr) (fs:List (Str×V))
 |own (x:Addr)
 |xd (fs:List (Str×V))
 |met (f x:Addr)
 |rng (lo hi:Int)
 |SQ (o:Obj) (u:HO)
 |Wi (ps:Array Value)
 |ext (φ:Heap→Prop)
abbrev Hp:=Addr→Option HO
noncomputable def upd(H:Hp)(a:Addr)(o:HO):Hp:=fun b=>if b=a then some o else H b
theorem aG{H:Hp}{a:Addr}{o:HO}:upd H a o a=some o:=by unfold upd;rw[if_pos rfl]
theorem ai{H:Hp}{a b:Addr}{o:HO}(h:b≠a):upd H a o b=H b:=by unfold upd;rw[if_neg h]
theorem wY{H:Hp}{a:Addr}{o u:HO}:upd (upd H a o) a u=upd H a u:=by funext b;unfold upd;split<;>rfl
theorem qu{H:Hp}{a b:Addr}{o u:HO}(h:H a=some o)(h':H b=some u)(d:o≠u):a≠b:=by intro e;subst e;rw[h]at h';exact d (Option.some.inj h')
theorem ar{H:Hp}{a b:Addr}{o:HO}(h:H a=some o)(h':H b=none):a≠b:=by intro e;subst e;rw[h]at h';cases h'
section
variable(P:Program)(w:World)
def bE(H:Hp)(h:Heap)(a:Addr):HO→Prop
 |.lst xs=>xs.length≤sizeLine∧∃(its:List Value)(n:Nat),aW xs its∧h.get? a=some { cls:=.type "list",data:=.seq its.toArray n }
 |.tup xs=>xs.length≤sizeLine∧∃its:List Value,aW xs its∧IsTup h a its.toArray
 |.dK kvs=>kvs.length≤sizeLine∧(a==sysModules)=false∧∃vs,KV kvs vs∧h.DictOf (bW P w) a vs
 |.dT kvs=>kvs.length≤sizeLine∧(a==sysModules)=false∧∃xs:List (List Key×Addr×Value),
   Paired (fun(p:List Key×V)(q:List Key×Addr×Value)=>p.1=q.1∧H q.2.1=some (.tup (p.1.map kV))∧bn p.2 q.2.2) kvs xs∧
   ∃o es ep,h.get? a=some o∧o.ExactDict∧o.data=.dict es ep∧es.toList=xs.map (entryOfKey (tupleKind (bW P w)))∧(xs.map (·.1)).Nodup
 |.set S n=>h.SetOf (intKind P w) a S n
 |.ins C dx fs=>H dx=some (.own a)∧fs.length≤1000∧dx≠a∧h.get? a=some (W.instObj C dx)∧
   ∃mA,h.Ns1 dx mA∧(∀f,pL (fs.lookup f) (mA f))∧PySem.Within mA (fs.map (·.1))
 |.own _=>∃o,h.get? a=some o
 |.xd fs=>∃mA,h.Ns1 a mA∧∀f,pL (fs.lookup f) (mA f)
 |.rng lo hi=>∃t u v,h.get? a=some { cls:=.type "range",data:=.fields #[.int lo t,.int hi u,.int 1 v] }
 |.SQ o u=>h.get? a=some o∧bE H h a u
 |.Wi ps=>h.get? a=some { cls:=.none,data:=.fields ps }
 |.met f x=>h.get? a=some (W.methodObj (.ref f) (.ref x))
 |.ext φ=>φ h∧(∃o,h.get? a=some o)∧∀h1 h2:Heap,φ h1→(∀o,h1.get? a=some o→h2.get? a=some o)→φ h2
def Pq(H:Hp)(h:Heap):Prop:=∀a o,H a=some o→bE P w H h a o
end
section
variable{P:Program}{w:World}{H H':Hp}{h h':Heap}{a:Addr}{o:HO}
theorem bE.lt(x:bE P w H h a o):a<h.objs.size:=by
 cases o with
 |lst xs=>obtain⟨_,_,_,_,e⟩:=x;exact Heap.lt_size e
 |tup xs=>obtain⟨_,_,_,p⟩:=x;exact p.lt
 |dK kvs=>obtain⟨_,_,_,_,o,_,_,e,_⟩:=x;exact Heap.lt_size e
 |dT kvs=>obtain⟨_,_,_,_,o,_,_,e,_⟩:=x;exact Heap.lt_size e
 |set S n=>obtain⟨o,_,_,_,e,_⟩:=x;exact Heap.lt_size e
 |ins C dx fs=>obtain⟨_,_,_,e,_⟩:=x;exact Heap.lt_size e
 |own y=>obtain⟨_,e⟩:=x;exact Heap.lt_size e
 |xd fs=>obtain⟨_,⟨_,_,_,e,_⟩,_⟩:=x;exact Heap.lt_size e
 |rng lo hi=>obtain⟨_,_,_,e⟩:=x;exact Heap.lt_size e
 |SQ ob u=>obtain⟨e,_⟩:=x;exact Heap.lt_size e
 |Wi ps=>exact Heap.lt_size (show h.get? a=some _ from x)
 |met f y=>exact Heap.lt_size (show h.get? a=some _ from x)
 |ext φ=>obtain⟨_,⟨_,e⟩,_⟩:=x;exact Heap.lt_size e
theorem Paired.WX{α β:Type}{F G:α→β→Prop}:∀{l₁:List α}{l₂:List β},Paired F l₁ l₂→(∀a b,F a b→G a b)→Paired G l₁ l₂
 |_,_,.nil,_=>.nil
 |_,_,.cons r t,f=>.cons (f _ _ r) (Paired.WX t f)
theorem bE.stay(x:bE P w H h a o)(k:∀b u,(b=a∨H b=some (.own a))→h.get? b=some u→h'.get? b=some u)
  (ho:∀b,H b=some (.own a)→H' b=some (.own a)) (ht:∀b xs,H b=some (.tup xs)→H' b=some (.tup xs)):bE P w H' h' a o:=by
 induction o with
 |lst xs=>obtain⟨z,its,n,r,e⟩:=x;exact⟨z,its,n,r,k _ _ (.inl rfl) e⟩
 |tup xs=>obtain⟨z,its,r,ob,e,c⟩:=x;exact⟨z,its,r,ob,k _ _ (.inl rfl) e,c⟩
 |dK kvs=>obtain⟨z,y,vs,r,ob,es,ep,e,c⟩:=x;exact⟨z,y,vs,r,ob,es,ep,k _ _ (.inl rfl) e,c⟩
 |dT kvs=>obtain⟨z,y,xs,r,ob,es,ep,e,c⟩:=x;exact⟨z,y,xs,Paired.WX r fun p q z=>⟨z.1,ht _ _ z.2.1,z.2.2⟩,ob,es,ep,k _ _ (.inl rfl) e,c⟩
 |set S n=>obtain⟨ob,es,ep,t,e,c⟩:=x;exact⟨ob,es,ep,t,k _ _ (.inl rfl) e,c⟩
 |ins C dx fs=>obtain⟨d,z,ne,e,mA,⟨od,es,ep,e2,c⟩,r⟩:=x;exact⟨ho _ d,z,ne,k _ _ (.inl rfl) e,mA,⟨od,es,ep,k _ _ (.inr d) e2,c⟩,r⟩
 |own y=>obtain⟨ob,e⟩:=x;exact⟨ob,k _ _ (.inl rfl) e⟩
 |xd fs=>obtain⟨mA,⟨od,es,ep,e,c⟩,r⟩:=x;exact⟨mA,⟨od,es,ep,k _ _ (.inl rfl) e,c⟩,r⟩
 |rng lo hi=>obtain⟨t,u,v,e⟩:=x;exact⟨t,u,v,k _ _ (.inl rfl) e⟩
 |SQ ob u ih=>obtain⟨e,q⟩:=x;exact⟨k _ _ (.inl rfl) e,ih q⟩
 |Wi ps=>have e:h.get? a=some { cls:=.none,data:=.fields ps }:=x;show h'.get? a=some { cls:=.none,data:=.fields ps };exact k a _ (.inl rfl) e
 |met f y=>have e:h.get? a=some (W.methodObj (.ref f) (.ref y)):=x;show h'.get? a=some (W.methodObj (.ref f) (.ref y));exact k a _ (.inl rfl) e
 |ext φ=>obtain⟨p,⟨o,e⟩,st⟩:=x;exact⟨st _ _ p fun o q=>k _ _ (.inl rfl) q,⟨o,k _ _ (.inl rfl) e⟩,st⟩
theorem Pq.lt(x:Pq P w H h)(e:H a=some o):a<h.objs.size:=(x a o e).lt
theorem Pq.fresh(x:Pq P w H h)(e:h.objs.size≤a):H a=none:=by
 cases q:H a with
 |none=>rfl
 |some u=>exact absurd (Nat.lt_of_lt_of_le (x.lt q) e) (Nat.lt_irrefl _)
theorem Pq.kept(x:Pq P w H h)(k:∀b u,h.get? b=some u→h'.get? b=some u):Pq P w H h':=fun a o e=>(x a o e).stay (fun b u _ q=>k b u q) (fun _ q=>q) fun _ _ q=>q
theorem Pq.laid(x:Pq P w H h)(k:∀b u,h.get? b=some u→h'.get? b=some u)(hp:h.objs.size≤a)(new:bE P w (upd H a o) h' a o):Pq P w (upd H a o) h':=fun b u e=>by
 have hn:=x.fresh hp
 by_cases hb:b=a
 ·subst hb;rw[aG]at e;cases e;exact new
 ·rw[ai hb]at e;exact(x b u e).stay (fun c v _ q=>k c v q) (fun c q=>by rw[ai (ar q hn)];exact q) fun c xs q=>by rw[ai (ar q hn)];exact q
end
def Rd(H:Hp)(a:Addr)(u:HO):Prop:=H a=some u∨∃o,H a=some (.SQ o u)
theorem Rd.ok{P:Program}{w:World}{H:Hp}{h:Heap}{a:Addr}{u:HO}(r:Rd H a u)(x:Pq P w H h):bE P w H h a u:=by
 rcases r with r|⟨o,r⟩
 ·exact x a u r
 ·obtain⟨_,q⟩:=x a _ r;exact q
def YL:Option HO→Prop
 |some (.lst _)=>True
 |some (.dK _)=>True
 |some (.dT _)=>True
 |some (.set _ _)=>True
 |some (.ins _ _ _)=>True
 |some (.ext _)=>True
 |_=>False
section
variable{P:Program}{w:World}{H:Hp}{h h':Heap}{x e:Addr}{o':HO}
theorem Pq.write(ok:Pq P w H h)(mu:YL (H x))(he:e=x∨H e=some (.own x))(k:∀b u,b≠e→h.get? b=some u→h'.get? b=some u)(Xq:∃u,h'.get? e=some u)
  (new:bE P w (upd H x o') h' x o'):Pq P w (upd H x o') h':=fun b u q=>by
 have X5:∀c y,H c=some (.own y)→c≠x:=fun c y r z=>by subst z;rw[r]at mu;exact mu
 have Z0:∀c xs,H c=some (.tup xs)→c≠x:=fun c xs r z=>by subst z;rw[r]at mu;exact mu
 by_cases hb:b=x
 ·subst hb;rw[aG]at q;cases q;exact new
 ·rw[ai hb]at q
  by_cases hbe:b=e
  ·have q':H b=some (.own x):=by
    rcases he with z|z
    ·exact absurd (hbe.trans z) hb
    ·rw[hbe];exact z
   rw[q]at q';cases q';obtain⟨v,hv⟩:=Xq;exact⟨v,by rw[hbe];exact hv⟩
  ·refine(ok b u q).stay (fun c v hc r=>k c v ?_ r) (fun c r=>by rw[ai (X5 c b r)];exact r) fun c xs r=>by rw[ai (Z0 c xs r)];exact r
   rcases hc with rfl|hc
   ·exact hbe
   ·rintro rfl
    rcases he with z|z
    ·exact X5 c b hc z
    ·rw[hc]at z;cases z;exact hb rfl
end
structure Un(fs ex:List Addr)(H H':Hp)(h h':Heap):Prop where
 keep:∀b o,h.get? b=some o→H b=none→b∉fs→b∉ex→h'.get? b=some o
 slot:∀b o,h.get? b=some o→H b=none→b∈fs→b∉ex→∃sl,h'.get? b=some { o with slots:=sl }
 free:∀b o,h.get? b=some o→H b=none→b∉ex→H' b=none
 there:∀b o,h.get? b=some o→b∉ex→∃o',h'.get? b=some o'
 tups:∀b xs,H b=some (.tup xs)→H' b=some (.tup xs)
 N8:∀b o u,H b=some (.SQ o u)→H' b=some (.SQ o u)
 QF:∀b ps,H b=some (.Wi ps)→∃more,H' b=some (.Wi (ps++more))
section
variable{fs fs' ex ex':List Addr}{H H1 H2:Hp}{h h1 h2 h':Heap}{a x e:Addr}{o:HO}
theorem Un.any(u:Un fs ex H H1 h h1){b:Addr}{ob:Obj}(q:h.get? b=some ob)(n:H b=none)(hx:b∉ex):∃sl,h1.get? b=some { ob with slots:=sl }:=by
 by_cases hb:b∈fs
 ·exact u.slot b ob q n hb hx
 ·exact⟨ob.slots,u.keep b ob q n hb hx⟩
theorem Un.kept(k:∀b u,h.get? b=some u→h'.get? b=some u):Un fs ex H H h h':=
 ⟨fun b ob q _ _ _=>k b ob q,fun b ob q _ _ _=>⟨ob.slots,k b ob q⟩,fun _ _ _ n _=>n,fun b ob q _=>⟨ob,k b ob q⟩,fun _ _ q=>q,fun _ _ _ q=>q,fun _ ps q=>⟨#[],by rw[q];simp⟩⟩
theorem Un.refl:Un fs ex H H h h:=Un.kept fun _ _ q=>q
theorem Un.laid(k:∀b u,h.get? b=some u→h'.get? b=some u)(hp:h.objs.size≤a)(hn:H a=none):Un fs ex H (upd H a o) h h' where
 keep:=fun b u q _ _ _=>k b u q
 slot:=fun b u q _ _ _=>⟨u.slots,k b u q⟩
 free:=fun b u q n _=>by rw[ai (Nat.ne_of_lt (Nat.lt_of_lt_of_le (Heap.lt_size q) hp))];exact n
 there:=fun b u q _=>⟨u,k b u q⟩
 tups:=fun b xs q=>by rw[ai (ar q hn)];exact q
 N8:=fun b u xs q=>by rw[ai (ar q hn)];exact q
 QF:=fun b ps q=>⟨#[],by rw[ai (ar q hn),q];simp⟩
theorem Un.write(mu:YL (H x))(he:e=x∨H e=some (.own x))(k:∀b u,b≠e→h.get? b=some u→h'.get? b=some u)(Xq:∃u,h'.get? e=some u):Un fs ex H (upd H x o) h h':=by
 have hx:∀b,H b=none→b≠x:=fun b n z=>by subst z;rw[n]at mu;exact mu
 have hb:∀b,H b=none→b≠e:=fun b n z=>by
  subst z;rcases he with r|r
  ·exact hx b n r
  ·rw[n]at r;cases r
 have hm:∀b u,H b=some u→¬ YL (some u)→b≠x:=fun b u q nm z=>by subst z;rw[q]at mu;exact nm mu
 refine⟨fun b u q n _ _=>k b u (hb b n) q,fun b u q n _ _=>⟨u.slots,k b u (hb b n) q⟩,fun b u q n _=>by rw[ai (hx b n)];exact n,fun b u q _=>?_,
  fun b xs q=>by rw[ai (hm b _ q fun z=>z)];exact q,fun b u xs q=>by rw[ai (hm b _ q fun z=>z)];exact q,fun b ps q=>⟨#[],by rw[ai (hm b _ q fun z=>z),q];simp⟩⟩
 by_cases hbe:b=e
 ·subst hbe;exact Xq
 ·exact⟨u,k b u hbe q⟩
end
noncomputable def YX(h:Heap)(H:Hp):List Addr:=(List.range h.objs.size).filter fun a=>(H a).isSome
def sJ(h:Heap)(H:Hp):Heap:=W.hideAll h (YX h H)
theorem zD(h:Heap)(H:Hp):(sJ h H).objs.size=h.objs.size:=W.hideAll_size _ _
theorem Cn{h:Heap}{H:Hp}{b:Addr}{o:Obj}(e:h.get? b=some o)(n:H b=none):(sJ h H).get? b=some o:=
 W.hideAll_get _ e fun hm=>by have q:(H b).isSome=true:=(List.mem_filter.mp hm).2;rw[n]at q;simp at q
theorem Eo{h:Heap}{H:Hp}{b:Addr}{o:Obj}(e:(sJ h H).get? b=some o):h.get? b=some o∧H b=none:=by
 have e':h.get? b=some o:=W.of_hideAll (YX h H) e;refine⟨e',?_⟩
 cases q:H b with
 |none=>rfl
 |some x=>have hm:b∈YX h H:=List.mem_filter.mpr ⟨List.mem_range.mpr (Heap.lt_size e'),by simp[q]⟩;have z:(sJ h H).get? b=none:=W.hideAll_none (YX h H) hm;rw[z]at e;cases e
structure Mod(K:W.Frag)(mg:Str→Option Value)(base:Heap):Prop where
 Px:K.In base
 glob:base.Ns mainGlobals mg
 blt:∃mb,base.Ns builtinsNs mb∧∀x:Str,x≠"__name__"→mb x=bootBuiltins x
 nolimit:base.NoLimit
structure Cx where
 prog:Program
 w:World
 K:W.Frag
 mg:Str→Option Value
 base:Heap
 A:Around
 N:List Str
 s₀:Shared
 H₀:Hp
 env:Env
 outer:List Env
 stack:List Env
 ex:List Addr
 fn:Str→Bool
 calm:Bool
 pn:List (Addr×Obj)
 xe:Value→Shared→Prop
noncomputable def frs(l:List Env):List Addr:=l.filterMap (·.frame)
abbrev Cx.fs(X:Cx):List Addr:=frs X.outer
def YG(sc:Scope)(x:Str):Prop:=sc.names.lookup x=some .local∨sc.names.lookup x=some .cell∨sc.names.lookup x=some .free
def Loc(sc:Scope)(x:Str):Prop:=sc.names.lookup x=some .local∨sc.names.lookup x=some .cell
def MC(env:Env)(h:Heap)(m:Str→Option Value)(x:Str)(u:Value):Prop:=
 (env.kindOf x=some .local∧m x=some u)∨((env.kindOf x=some .cell∨env.kindOf x=some .free)∧∃c,env.cells.lookup x=some c∧h.IsCell c (some u))
structure Cx.Ok(X:Cx):Prop where
 mod:Mod X.K X.mg X.base
 kind:X.env.scope.kind=.function
 glob:X.env.globals=mainGlobals
 blt:X.env.builtins=builtinsNs
 above:X.s₀.heap.objs.size≤X.env.locals
 inj:∀x y c,X.env.cells.lookup x=some c→X.env.cells.lookup y=some c→x=y
 has:∀x,(X.env.kindOf x=some .cell∨X.env.kindOf x=some .free)→∃c,X.env.cells.lookup x=some c
 cab:∀x c,X.fn x=true→X.env.cells.lookup x=some c→X.s₀.heap.objs.size≤c
 hd:X.calm=true→X.A.handled=none
 frames:X.A.frames=some X.stack
 stk:X.stack=X.outer∨(X.stack=X.env::X.outer∧X.env.frame=some X.env.locals)
 Yv:∀b∈X.ex,b≠X.env.locals∧∀x c,X.env.cells.lookup x=some c→c≠b
 bs:∀b o,X.base.get? b=some o→X.s₀.heap.get? b=some o∧X.H₀ b=none
 U7:X.base.objs.size≤X.s₀.heap.objs.size
 Tt:∀b o,X.base.get? b=some o→b∉X.ex
 Uh:∀b∈X.ex,b∉X.fs
 QH:X.s₀.heap.FunFrames X.base X.outer
 VG:∀b∈X.fs,X.H₀ b=none
structure Inv(X:Cx)(pins:List (Addr×Obj))(σ:List (Option V))(H:Hp)(s:Shared):Prop where
 ok:X.Ok
 os:s.os=X.s₀.os
 bare:AllBare s.gens
 base:Un X.fs X.ex X.H₀ H X.s₀.heap s.heap
 loc:∃m,s.heap.Ns X.env.locals m∧∀(i:Nat)(x:Str)(v:V),X.N[i]? =some x→σ[i]? =some (some v)→YG X.env.scope x→∃u,bn v u∧MC X.env s.heap m x u
 cell:∀x c,X.env.cells.lookup x=some c→∃v,s.heap.IsCell c v
 free:H X.env.locals=none
 Ol:∀x c,X.env.cells.lookup x=some c→H c=none
 pin:∀p∈X.pn++pins,s.heap.get? p.1=some p.2∧H p.1=none∧p.1≠X.env.locals∧p.1∉X.fs∧∀v,p.2.data≠.cell v
 hok:Pq X.prog X.w H s.heap
 len:σ.length=X.N.length
section
variable{X:Cx}{pins:List (Addr×Obj)}{σ:List (Option V)}{H H':Hp}{s:Shared}{h':Heap}
theorem Cx.Ok.Z1(ok:X.Ok){b:Addr}{o:Obj}(e:X.base.get? b=some o):b∉X.fs:=fun hb=>by have:=(ok.QH.mem hb).1;rw[e]at this;cases this
theorem Inv.bs(I:Inv X pins σ H s):∀b o,X.base.get? b=some o→s.heap.get? b=some o∧H b=none:=fun b o e=>⟨I.base.keep b o (I.ok.bs b o e).1 (I.ok.bs b o e).2 (I.ok.Z1 e) (I.ok.Tt b o e),I.base.free b o (I.ok.bs b o e).1 (I.ok.bs b o e).2 (I.ok.Tt b o e)⟩
theorem Inv.bk(I:Inv X pins σ H s):∀b o,X.base.get? b=some o→s.heap.get? b=some o:=fun b o e=>(I.bs b o e).1
theorem Inv.mod(I:Inv X pins σ H s):Mod X.K X.mg X.base:=I.ok.mod
theorem Inv.RJ(I:Inv X pins σ H s):X.K.In s.heap:=I.ok.mod.Px.keeps I.bk
theorem Inv.lt(I:Inv X pins σ H s):X.env.locals<s.heap.objs.size:=let⟨_,hn,_⟩:=I.loc;hn.lt
theorem Inv.sz(I:Inv X pins σ H s):X.s₀.heap.objs.size≤s.heap.objs.size:=Nat.le_trans I.ok.above (Nat.le_of_lt I.lt)
theorem Inv.X6(I:Inv X pins σ H s){a:Addr}(h:s.heap.objs.size≤a):a∉X.fs:=fun hb=>by obtain⟨_,o,ho,_⟩:=I.ok.QH.mem hb;exact absurd (Nat.lt_of_lt_of_le (Heap.lt_size ho) (Nat.le_trans I.sz h)) (Nat.lt_irrefl _)
theorem Inv.Wv(I:Inv X pins σ H s):∀x c,X.env.cells.lookup x=some c→c≠X.env.locals:=fun x c e z=>by obtain⟨v,o,ho,hd⟩:=I.cell x c e;obtain⟨m,⟨o',es,ep,V_,hd',_⟩,_⟩:=I.loc;rw[z,V_]at ho;cases ho;rw[hd']at hd;cases hd
theorem Inv.QH(I:Inv X pins σ H s):s.heap.FunFrames X.base X.outer:=by
 have all:∀(l:List Env),(∀b∈frs l,b∈X.fs)→X.s₀.heap.FunFrames X.base l→s.heap.FunFrames X.base l:=by
  intro l
  induction l with
  |nil=>intro _ _;trivial
  |cons env r ih=>intro hs hl;obtain⟨hk,⟨L,o,hf,hn,ho,hd⟩,hr⟩:=hl;have hL:L∈X.fs:=hs L (by unfold frs;rw[List.filterMap_cons,hf];exact List.mem_cons_self);obtain⟨sl,e⟩:=I.base.slot L o ho (I.ok.VG L hL) hL fun z=>I.ok.Uh L z hL;exact⟨hk,⟨L,_,hf,hn,e,hd⟩,ih (fun b hb=>hs b (by unfold frs;rw[List.filterMap_cons,hf];exact List.mem_cons_of_mem _ hb)) hr⟩
 exact all X.outer (fun _ hb=>hb) I.ok.QH
theorem Inv.stack(I:Inv X pins σ H s):s.heap.FunFrames X.base X.stack:=by
 rcases I.ok.stk with e|⟨e,hf⟩
 ·rw[e];exact I.QH
 ·rw[e];obtain⟨m,hn,_⟩:=I.loc;refine .cons (by rw[I.ok.kind];decide) hf hn ?_ I.QH;exact Heap.get?_none_of_le (Nat.le_trans I.ok.U7 I.ok.above)
theorem Inv.RZ(I:Inv X pins σ H s):∀b∈frs X.stack,b∈X.env.locals::X.fs:=fun b hb=>by
 rcases I.ok.stk with e|⟨e,hf⟩
 ·rw[e]at hb;exact List.mem_cons_of_mem _ hb
 ·rw[e]at hb;unfold frs at hb;rw[List.filterMap_cons,hf]at hb;exact hb
theorem Inv.Pa(I:Inv X pins σ H s):∀b∈frs X.stack,H b=none:=fun b hb=>by
 rcases List.mem_cons.mp (I.RZ b hb)with e|hb
 ·rw[e];exact I.free
 ·obtain⟨_,o,ho,_⟩:=I.ok.QH.mem hb;exact I.base.free b o ho (I.ok.VG b hb) fun z=>I.ok.Uh b z hb
theorem Inv.step{g':Array GenState}{t':Nat}{d':Drawn}{ch:List Addr}(I:Inv X pins σ H s)
  (VF:∀b∈ch,(b∈X.ex∨X.s₀.heap.objs.size≤b)∧b≠X.env.locals∧(∀x c,X.env.cells.lookup x=some c→c≠b)∧∀p∈X.pn++pins,p.1≠b)
  (keep:∀b o,b≠X.env.locals→b∉X.fs→b∉ch→s.heap.get? b=some o→H b=none→h'.get? b=some o)
  (slot:∀b o,b≠X.env.locals→b∈X.fs→b∉ch→s.heap.get? b=some o→H b=none→∃sl,h'.get? b=some { o with slots:=sl }) (free:∀b o,b∉ch→s.heap.get? b=some o→H b=none→H' b=none)
  (there:∀b o,b∉ch→s.heap.get? b=some o→∃o',h'.get? b=some o')
  (tups:∀b xs,H b=some (.tup xs)→H' b=some (.tup xs)) (N8:∀b o u,H b=some (.SQ o u)→H' b=some (.SQ o u)) (QF:∀b ps,H b=some (.Wi ps)→∃more,H' b=some (.Wi (ps++more)))
  (ns:∀m,s.heap.Ns X.env.locals m→h'.Ns X.env.locals m) (hok:Pq X.prog X.w H' h') (hg:AllBare g'):
  Inv X pins σ H' { s with heap:=h',gens:=g',drawn:=d',toks:=t' }:=by
 have Vy:∀b o,X.s₀.heap.get? b=some o→b≠X.env.locals:=fun b o e=>Nat.ne_of_lt (Nat.lt_of_lt_of_le (Heap.lt_size e) I.ok.above)
 have Y9:∀b o,X.s₀.heap.get? b=some o→b∉X.ex→b∉ch:=fun b o e hx hb=>by
  rcases(VF b hb).1 with z|z
  ·exact hx z
  ·exact absurd (Nat.lt_of_lt_of_le (Heap.lt_size e) z) (Nat.lt_irrefl _)
 have cellK:∀x c,X.env.cells.lookup x=some c→∀v,s.heap.IsCell c v→h'.IsCell c v:=fun x c e v ⟨o,ho,hd⟩=>by
  have X8:c∉ch:=fun z=>(VF c z).2.2.1 x c e rfl
  by_cases hc:c∈X.fs
  ·obtain⟨sl,q⟩:=slot c o (I.Wv x c e) hc X8 ho (I.Ol x c e);exact⟨_,q,hd⟩
  ·exact⟨o,keep c o (I.Wv x c e) hc X8 ho (I.Ol x c e),hd⟩
 refine⟨I.ok,I.os,hg,⟨fun b o e n hb hx=>?_,fun b o e n hb hx=>?_,fun b o e n hx=>?_,fun b o e hx=>?_,fun b xs e=>tups b xs (I.base.tups b xs e),fun b o xs e=>N8 b o xs (I.base.N8 b o xs e),fun b ps e=>?_⟩,?_,fun x c e=>?_,?_,fun x c e=>?_,fun p hp=>?_,hok,I.len⟩
 ·exact keep b o (Vy b o e) hb (Y9 b o e hx) (I.base.keep b o e n hb hx) (I.base.free b o e n hx)
 ·obtain⟨sl,e1⟩:=I.base.slot b o e n hb hx;obtain⟨T9,e2⟩:=slot b _ (Vy b o e) hb (Y9 b o e hx) e1 (I.base.free b o e n hx);exact⟨T9,e2⟩
 ·obtain⟨o',e1⟩:=I.base.there b o e hx;exact free b o' (Y9 b o e hx) e1 (I.base.free b o e n hx)
 ·obtain⟨o',e1⟩:=I.base.there b o e hx;exact there b o' (Y9 b o e hx) e1
 ·obtain⟨m1,e1⟩:=I.base.QF b ps e;obtain⟨m2,e2⟩:=QF b _ e1;exact⟨m1++m2,by rw[e2,Array.append_assoc]⟩
 ·obtain⟨m,hn,hl⟩:=I.loc;refine⟨m,ns m hn,fun i x v e1 e2 e3=>?_⟩;obtain⟨u,r,l⟩:=hl i x v e1 e2 e3;refine⟨u,r,?_⟩;rcases l with l|⟨k,c,e,z⟩
  ·exact .inl l
  ·exact .inr ⟨k,c,e,cellK x c e _ z⟩
 ·obtain⟨v,z⟩:=I.cell x c e;exact⟨v,cellK x c e v z⟩
 ·obtain⟨m,⟨o,_,_,ho,_⟩,_⟩:=I.loc;exact free _ o (fun z=>(VF _ z).2.1 rfl) ho I.free
 ·obtain⟨v,o,ho,hd⟩:=I.cell x c e;exact free c o (fun z=>(VF c z).2.2.1 x c e rfl) ho (I.Ol x c e)
 ·obtain⟨e,n,ne,nf,d⟩:=I.pin p hp;have X8:p.1∉ch:=fun z=>(VF p.1 z).2.2.2 p hp rfl;exact⟨keep p.1 p.2 ne nf X8 e n,free p.1 p.2 X8 e n,ne,nf,d⟩
theorem Inv.un{t':Nat}(I:Inv X pins σ H s)(u:Un X.fs [] H H' s.heap h')(hok:Pq X.prog X.w H' h'):Inv X pins σ H' { s with heap:=h',toks:=t' }:=by
 obtain⟨m,⟨o,es,ep,ho,r⟩,_⟩:=id I.loc;obtain⟨sl,hL⟩:=u.any ho I.free (by simp)
 exact I.step (g':=s.gens) (d':=s.drawn) (ch:=[]) (fun _ z=>nomatch z) (fun b o _ hb _ e n=>u.keep b o e n hb (by simp)) (fun b o _ hb _ e n=>u.slot b o e n hb (by simp)) (fun b o _ e n=>u.free b o e n (by simp)) (fun b o _ e=>u.there b o e (by simp)) u.tups u.N8 u.QF (fun m' hm=>by obtain⟨o',Xk,ep',V_,r'⟩:=hm;rw[ho]at V_;cases V_;exact⟨_,Xk,ep',hL,r'⟩) hok I.bare
theorem Inv.call{g':Array GenState}{t':Nat}{d':Drawn}{ch:List Addr}(I:Inv X pins σ H s)(u:Un (frs X.stack) ch H H' s.heap h')(hok:Pq X.prog X.w H' h')(hg:AllBare g')
  (VF:∀b∈ch,(b∈X.ex∨X.s₀.heap.objs.size≤b)∧b≠X.env.locals∧(∀x c,X.env.cells.lookup x=some c→c≠b)∧∀p∈X.pn++pins,p.1≠b):
  Inv X pins σ H' { s with heap:=h',gens:=g',drawn:=d',toks:=t' }:=by
 obtain⟨m,⟨o,es,ep,ho,r⟩,_⟩:=id I.loc;obtain⟨sl,hL⟩:=u.any ho I.free fun z=>(VF _ z).2.1 rfl
 exact I.step (ch:=ch) VF (fun b o hL hb hc e n=>u.keep b o e n (fun z=>(List.mem_cons.mp (I.RZ b z)).elim hL hb) hc) (fun b o _ _ hc e n=>u.any e n hc) (fun b o hc e n=>u.free b o e n hc) (fun b o hc e=>u.there b o e hc) u.tups u.N8 u.QF (fun m' hm=>by obtain⟨o',Xk,ep',V_,r'⟩:=hm;rw[ho]at V_;cases V_;exact⟨_,Xk,ep',hL,r'⟩) hok hg
theorem Inv.turned{t':Nat}{it:Addr}(I:Inv X pins σ H s)(k:∀b o,b≠it→s.heap.get? b=some o→h'.get? b=some o)(hn:H it=none)(hL:it≠X.env.locals)
  (h1:it∈X.ex∨X.s₀.heap.objs.size≤it) (h2:∀x c,X.env.cells.lookup x=some c→c≠it) (h3:∀p∈X.pn++pins,p.1≠it):Inv X pins σ H { s with heap:=h',toks:=t' }:=by
 have nit:∀b u,H b=some u→b≠it:=fun b u e z=>by rw[z,hn]at e;cases e
 refine I.step (g':=s.gens) (d':=s.drawn) (ch:=[it]) (fun b hb=>?_) (fun b o _ _ hc e _=>k b o (fun z=>hc (by simp[z])) e) (fun b o _ _ hc e _=>⟨o.slots,k b o (fun z=>hc (by simp[z])) e⟩) (fun _ _ _ _ n=>n)
  (fun b o hc e=>⟨o,k b o (fun z=>hc (by simp[z])) e⟩) (fun _ _ e=>e) (fun _ _ _ e=>e) (fun b ps e=>⟨#[],by rw[e];simp⟩) (fun m hm=>?_) (fun b u e=>?_) I.bare
 ·have e:b=it:=by simpa using hb
  subst e;exact⟨h1,hL,h2,h3⟩
 ·obtain⟨o,es,ep,ho,r⟩:=hm;exact⟨o,es,ep,k _ o (Ne.symm hL) ho,r⟩
 ·refine(I.hok b u e).stay (fun c v hc q=>k c v ?_ q) (fun _ q=>q) fun _ _ q=>q;rcases hc with z|z
  ·rw[z];exact nit b u e
  ·exact nit c _ z
theorem Inv.tok(I:Inv X pins σ H s)(t:Nat):Inv X pins σ H { s with toks:=t }:=I.un (h':=s.heap) (t':=t) Un.refl I.hok
theorem Inv.kept{t':Nat}(I:Inv X pins σ H s)(k:∀b u,s.heap.get? b=some u→h'.get? b=some u):Inv X pins σ H { s with heap:=h',toks:=t' }:=I.un (Un.kept k) (I.hok.kept k)
theorem Inv.laid{a:Addr}{o:HO}{t':Nat}(I:Inv X pins σ H s)(k:∀b u,s.heap.get? b=some u→h'.get? b=some u)(hp:s.heap.objs.size≤a)(new:bE X.prog X.w (upd H a o) h' a o):
  Inv X pins σ (upd H a o) { s with heap:=h',toks:=t' }:=I.un (Un.laid k hp (I.hok.fresh hp)) (I.hok.laid k hp new)
theorem Inv.write{x e:Addr}{o:HO}{t':Nat}(I:Inv X pins σ H s)(mu:YL (H x))(he:e=x∨H e=some (.own x))(k:∀b u,b≠e→s.heap.get? b=some u→h'.get? b=some u)(Xq:∃u,h'.get? e=some u)
  (new:bE X.prog X.w (upd H x o) h' x o):Inv X pins σ (upd H x o) { s with heap:=h',toks:=t' }:=I.un (Un.write mu he k Xq) (I.hok.write mu he k Xq new)
theorem Inv.weak{σ':List (Option V)}(I:Inv X pins σ H s)(hl:σ'.length=σ.length)(w:∀(i:Nat) v,σ'[i]? =some (some v)→σ[i]? =some (some v)):Inv X pins σ' H s:=
 ⟨I.ok,I.os,I.bare,I.base,let⟨m,hn,Yl⟩:=I.loc;⟨m,hn,fun i x v e1 e2 e3=>Yl i x v e1 (w i v e2) e3⟩,I.cell,I.free,I.Ol,I.pin,I.hok,hl.trans I.len⟩
theorem Inv.NQ{M5:List (Addr×Obj)}(I:Inv X pins σ H s)(h:∀p∈M5,s.heap.get? p.1=some p.2∧H p.1=none∧p.1≠X.env.locals∧p.1∉X.fs∧∀v,p.2.data≠.cell v):Inv X M5 σ H s:=
 ⟨I.ok,I.os,I.bare,I.base,I.loc,I.cell,I.free,I.Ol,fun p hp=>(List.mem_append.mp hp).elim (fun z=>I.pin p (List.mem_append_left _ z)) (h p),I.hok,I.len⟩
theorem uD{N:List Str}(hN:N.Nodup){i j:Nat}{x:Str}(a:N[i]? =some x)(b:N[j]? =some x):i=j:=by obtain⟨h1,e1⟩:=List.getElem?_eq_some_iff.mp a;obtain⟨h2,e2⟩:=List.getElem?_eq_some_iff.mp b;exact(List.getElem_inj hN).mp (e1.trans e2.symm)
theorem yK{M:Model}{A:Around}{E:Value→Shared→Prop}{i:Nat}{x:Str}{v:V}{u:Value}{Q:Unit→Shared→Prop}(I:Inv X pins σ H s)(hN:X.N.Nodup)(hi:X.N[i]? =some x)(hx:Loc X.env.scope x)(r:bn v u)
  (h:∀s',Inv X pins (σ.set i (some v)) H s'→(∃a,Heap.SameBut a s.heap s'.heap∧(a=X.env.locals∨X.env.cells.lookup x=some a))→Q () s') (hf:X.fn x=true∨X.env.scope.names.lookup x=some .local:=by first|exact .inl rfl|exact .inr rfl|assumption):wpAny M A (storeName X.env x u) Q E s:=by
 obtain⟨m,hn,hl⟩:=id I.loc;have aaC:(X.env.scope.kind==.class||(X.env.scope.kind==.module&&X.env.locals !=X.env.globals))=false:=by rw[I.ok.kind];rfl
 have hiσ:i<σ.length:=by rw[I.len];exact(List.getElem?_eq_some_iff.mp hi).1
 have Wv:=I.Wv
 have tracked:∀{a:Addr}{h':Heap},(∃o,s.heap.get? a=some o∧H a=none)→Heap.SameBut a s.heap h'→Pq X.prog X.w H h':=fun{a h'} ha hs b ob e=>by
  obtain⟨_,_,Wq⟩:=ha;refine(I.hok b ob e).stay (fun c w' hc q=>(hs.2 c ?_).trans q) (fun _ q=>q) fun _ _ q=>q
  rintro rfl
  rcases hc with rfl|hc
  ·rw[Wq]at e;cases e
  ·rw[Wq]at hc;cases hc
 rcases hx with hk|hk
 ·refine wpAny_storeName_local hk hn (fun h' hn' hs=>?_) aaC;obtain⟨oL,_,_,hoL,_⟩:=id hn;refine h _ ⟨I.ok,I.os,I.bare,⟨fun b o e n hb hx=>?_,fun b o e n hb hx=>?_,I.base.free,fun b o e hx=>?_,I.base.tups,I.base.N8,I.base.QF⟩,⟨_,hn',fun j y v' e1 e2 e3=>?_⟩,fun y c e=>?_,I.free,I.Ol,fun p hp=>?_,tracked ⟨oL,hoL,I.free⟩ hs,by simpa using I.len⟩ ⟨_,hs,.inl rfl⟩
  ·exact(hs.2 b (Nat.ne_of_lt (Nat.lt_of_lt_of_le (Heap.lt_size e) I.ok.above))).trans (I.base.keep b o e n hb hx)
  ·obtain⟨sl,e1⟩:=I.base.slot b o e n hb hx;exact⟨sl,(hs.2 b (Nat.ne_of_lt (Nat.lt_of_lt_of_le (Heap.lt_size e) I.ok.above))).trans e1⟩
  ·obtain⟨o',e1⟩:=I.base.there b o e hx;exact⟨o',(hs.2 b (Nat.ne_of_lt (Nat.lt_of_lt_of_le (Heap.lt_size e) I.ok.above))).trans e1⟩
  ·by_cases hj:j=i
   ·subst hj;rw[hi]at e1;cases e1;rw[List.getElem?_set_self hiσ]at e2
    cases e2
    exact⟨u,r,.inl ⟨hk,by simp⟩⟩
   ·rw[List.getElem?_set_ne (Ne.symm hj)]at e2;obtain⟨u',r',q⟩:=hl j y v' e1 e2 e3;refine⟨u',r',?_⟩;rcases q with⟨k,e⟩|⟨k,c,e,z⟩
    ·refine .inl ⟨k,?_⟩;have:y≠x:=fun e=>hj (uD hN e1 (e▸hi));simp[this,e]
    ·exact .inr ⟨k,c,e,z.sameBut hs (Wv y c e)⟩
  ·obtain⟨w',z⟩:=I.cell y c e;exact⟨w',z.sameBut hs (Wv y c e)⟩
  ·obtain⟨e,n,ne,nf,d⟩:=I.pin p hp;exact⟨(hs.2 p.1 ne).trans e,n,ne,nf,d⟩
 ·have UG:X.fn x=true:=by
   rcases hf with z|z
   ·exact z
   ·rw[z]at hk;cases hk
  obtain⟨c,hc⟩:=I.ok.has x (.inl hk);obtain⟨w',z⟩:=I.cell x c hc;refine wpAny_storeName_cell I.ok.kind hk hc z (fun h' W_ hs=>?_);obtain⟨oc,hoc,aap⟩:=id z;refine h { s with heap:=h' } ⟨I.ok,I.os,I.bare,⟨fun b o e n hb hx=>?_,fun b o e n hb hx=>?_,I.base.free,fun b o e hx=>?_,I.base.tups,I.base.N8,I.base.QF⟩,⟨m,hn.sameBut hs (Ne.symm (Wv x c hc)),fun j y v' e1 e2 e3=>?_⟩,fun y c' e=>?_,I.free,I.Ol,fun p hp=>?_,tracked ⟨oc,hoc,I.Ol x c hc⟩ hs,by simpa using I.len⟩ ⟨c,hs,.inr hc⟩
  ·exact(hs.2 b (Nat.ne_of_lt (Nat.lt_of_lt_of_le (Heap.lt_size e) (I.ok.cab x c UG hc)))).trans (I.base.keep b o e n hb hx)
  ·obtain⟨sl,e1⟩:=I.base.slot b o e n hb hx;exact⟨sl,(hs.2 b (Nat.ne_of_lt (Nat.lt_of_lt_of_le (Heap.lt_size e) (I.ok.cab x c UG hc)))).trans e1⟩
  ·obtain⟨o',e1⟩:=I.base.there b o e hx;exact⟨o',(hs.2 b (Nat.ne_of_lt (Nat.lt_of_lt_of_le (Heap.lt_size e) (I.ok.cab x c UG hc)))).trans e1⟩
  ·by_cases hj:j=i
   ·subst hj;rw[hi]at e1;cases e1;rw[List.getElem?_set_self hiσ]at e2
    cases e2
    exact⟨u,r,.inr ⟨.inl hk,c,hc,W_⟩⟩
   ·rw[List.getElem?_set_ne (Ne.symm hj)]at e2;obtain⟨u',r',q⟩:=hl j y v' e1 e2 e3;refine⟨u',r',?_⟩;rcases q with q|⟨k,c',e,z'⟩
    ·exact .inl q
    ·refine .inr ⟨k,c',e,z'.sameBut hs ?_⟩
     rintro rfl
     exact hj (uD hN e1 (I.ok.inj _ _ _ e hc▸hi))
  ·by_cases hcc:c'=c
   ·subst hcc;exact⟨_,W_⟩
   ·obtain⟨w2,z2⟩:=I.cell y c' e;exact⟨w2,z2.sameBut hs hcc⟩
  ·obtain⟨e,n,ne,nf,d⟩:=I.pin p hp;refine⟨(hs.2 p.1 ?_).trans e,n,ne,nf,d⟩;intro q;rw[q,hoc]at e;have q':oc=p.2:=Option.some.inj e;exact d w' (by rw[← q'];exact aap)
theorem oq{M:Model}{A:Around}{E:Value→Shared→Prop}{i:Nat}{x:Str}{v:V}{u:Value}{Q:Unit→Shared→Prop}(I:Inv X pins σ H s)(hN:X.N.Nodup)(hi:X.N[i]? =some x)(hx:Loc X.env.scope x)(r:bn v u)
  (h:∀s',Inv X pins (σ.set i (some v)) H s'→Q () s') (hf:X.fn x=true∨X.env.scope.names.lookup x=some .local:=by first|exact .inl rfl|exact .inr rfl|assumption):wpAny M A (storeName X.env x u) Q E s:=
 yK I hN hi hx r (fun s' I' _=>h s' I') hf
theorem Inv.call'{s':Shared}{ch:List Addr}(I:Inv X pins σ H s)(ho:s'.os=s.os)(u:Un (frs X.stack) ch H H' s.heap s'.heap)(hok:Pq X.prog X.w H' s'.heap)(hg:AllBare s'.gens)
  (VF:∀b∈ch,(b∈X.ex∨X.s₀.heap.objs.size≤b)∧b≠X.env.locals∧(∀x c,X.env.cells.lookup x=some c→c≠b)∧∀p∈X.pn++pins,p.1≠b):Inv X pins σ H' s':=by
 obtain⟨h',g',d',t',o'⟩:=s';have e:o'=s.os:=ho;subst e;exact I.call (g':=g') (t':=t') (d':=d') u hok hg VF
end
abbrev XK:=Value→Option Addr→Hp→Prop
abbrev St:=List (Option V)
abbrev VK:=V→Hp→Prop
abbrev TE:=St→Hp→VK→Prop
abbrev TT:=St→Hp→(Bool→Hp→Prop)→Prop
abbrev TA:=St→Hp→(List V→Hp→Prop)→Prop
structure pO where
 nx:St→Hp→Prop
 rt:VK
 bk:St→Hp→Prop:=fun _ _=>False
 ct:St→Hp→Prop:=fun _ _=>False
abbrev TS:=pO→St→Hp→Prop
def EP(X:Cx)(pins:List (Addr×Obj))(σ:St)(Q:VK)(u:Value)(s':Shared):Prop:=∃v H',Inv X pins σ H' s'∧bn v u∧Q v H'
def TP(X:Cx)(pins:List (Addr×Obj))(σ:St)(Q:Bool→Hp→Prop)(b:Bool)(s':Shared):Prop:=∃H',Inv X pins σ H' s'∧Q b H'
def AP(X:Cx)(pins:List (Addr×Obj))(σ:St)(Q:List V→Hp→Prop)(us:List Value)(s':Shared):Prop:=∃vs H',Inv X pins σ H' s'∧aW vs us∧Q vs H'
def SP(X:Cx)(pins:List (Addr×Obj))(D:pO)(f:Flow)(s':Shared):Prop:=
 match f with
 |.next=>∃ σ' H',Inv X pins σ' H' s'∧D.nx σ' H'
 |.brk=>∃ σ' H',Inv X pins σ' H' s'∧D.bk σ' H'
 |.cont=>∃ σ' H',Inv X pins σ' H' s'∧D.ct σ' H'
 |.ret u=>∃v σ' H',Inv X pins σ' H' s'∧bn v u∧D.rt v H'
def PE(X:Cx)(e:Expr)(t:TE):Prop:=
 ∀(pins:List (Addr×Obj))(s:Shared)(σ:St)(H:Hp)(Q:VK),Inv X pins σ H s→t σ H Q→wpAny (model X.prog X.w) X.A (eval e X.env) (EP X pins σ Q) X.xe s
def PT(X:Cx)(e:Expr)(t:TT):Prop:=
 ∀(pins:List (Addr×Obj))(s:Shared)(σ:St)(H:Hp)(Q:Bool→Hp→Prop),Inv X pins σ H s→t σ H Q→wpAny (model X.prog X.w) X.A (isTrue e X.env (eval e X.env)) (TP X pins σ Q) X.xe s
def PW(X:Cx)(e:Expr)(t:TT):Prop:=
 ∀(whole:Sem Value)(pins:List (Addr×Obj))(s:Shared)(σ:St)(H:Hp)(Q:Bool→Hp→Prop),Inv X pins σ H s→t σ H Q→wpAny (model X.prog X.w) X.A (isTrue e X.env whole) (TP X pins σ Q) X.xe s
theorem PW.pt{X:Cx}{e:Expr}{t:TT}(h:PW X e t):PT X e t:=h _
def PA(X:Cx)(es:List Expr)(t:TA):Prop:=
 ∀(pos:Pos)(pins:List (Addr×Obj))(s:Shared)(σ:St)(H:Hp)(Q:List V→Hp→Prop),Inv X pins σ H s→t σ H Q→wpAny (model X.prog X.w) X.A (spliced (backTo pos (starEach es X.env))) (AP X pins σ Q) X.xe s
def PS(X:Cx)(st:Stmt)(t:TS):Prop:=
 ∀(pins:List (Addr×Obj))(s:Shared)(σ:St)(H:Hp)(D:pO),Inv X pins σ H s→t D σ H→wpAny (model X.prog X.w) X.A (exec st X.env) (SP X pins D) X.xe s
def Sw(X:Cx)(st:List Stmt)(t:TS):Prop:=
 ∀(pins:List (Addr×Obj))(s:Shared)(σ:St)(H:Hp)(D:pO),Inv X pins σ H s→t D σ H→wpAny (model X.prog X.w) X.A (execs st X.env) (SP X pins D) X.xe s
theorem I_{α:Type}{t:Sem α}{Q Q':α→Shared→Prop}{M:Model}{A:Around}{E:Value→Shared→Prop}{s:Shared}(h:wpAny M A t Q E s)(hQ:∀a s,Q a s→Q' a s):wpAny M A t Q' E s:=wpAny_mono h hQ fun _ _ x=>x
section
variable{X:Cx}
noncomputable def Dt(i:Nat):TE:=fun σ H Q=>∃v,σ[i]? =some (some v)∧Q v H
noncomputable def tC(v:V):TE:=fun _ H Q=>Q v H
abbrev sE0(X:Cx)(e:Expr)(es:List Expr):Prop:=starEach (e::es) X.env=(false,eval e X.env)::starEach es X.env
abbrev sP0(X:Cx)(es:List Expr)(pos:Pos):Prop:=(backTo pos (starEach es X.env)).any (·.1)=false
abbrev nD0(x:Str):Prop:=(x==("__debug__":Str))=false
theorem vQ{i:Nat}{x:Str}{pos:Pos}(hN:X.N[i]? =some x)(hv:YG X.env.scope x)(hd:nD0 x:=by decide)(RK:(x==("__classdict__":Str))=false:=by decide):PE X (.Name x pos) (Dt i):=by
 intro pins s σ H Q I h;obtain⟨v,e,h⟩:=h;obtain⟨m,hn,hl⟩:=I.loc;obtain⟨u,r,l⟩:=hl i x v hN e hv;have fin:EP X pins σ Q u s:=⟨v,H,I,r,h⟩
 rcases l with⟨hk,hm⟩|⟨hk,c,hc,hcell⟩
 ·exact wpAny_Name (wpAny_loadName_local I.ok.kind hk hn hm fin) hd
 ·rcases hk with hk|hk
  ·exact wpAny_Name (wpAny_loadName_cell I.ok.kind hk hc hcell fin) hd
  ·exact wpAny_Name (wpAny_loadName_free I.ok.kind hk hc hcell fin RK) hd
theorem Hv{i j pos}:PE X (.Constant (.int i) j pos) (tC (.int i)):=fun _ _ _ H _ I h=>wpAny_Constant_int ⟨.int i,H,I.tok _,⟨_,rfl⟩,h⟩
theorem Jr{b j pos}:PE X (.Constant (.bool b) j pos) (tC (.bl b)):=fun _ _ _ H _ I h=>Constant_bool ⟨.bl b,H,I,rfl,h⟩
theorem Hu{j pos}:PE X (.Constant .none j pos) (tC .non):=fun _ _ _ H _ I h=>Constant_none ⟨.non,H,I,rfl,h⟩
theorem Hr{x j pos}:PE X (.Constant (.str x) j pos) (tC (.str x)):=fun _ _ _ H _ I h=>Calls.Constant_str ⟨.str x,H,I.tok _,⟨_,rfl⟩,h⟩
def Gl(X:Cx)(x:Str):Prop:=X.env.kindOf x=some .globalImplicit
theorem nM{E:Value→Shared→Prop}{pins:List (Addr×Obj)}{s:Shared}{σ:St}{H:Hp}{x:Str}{u:Value}{pos:Pos}{Q:Value→Shared→Prop}(I:Inv X pins σ H s)(hg:Gl X x)(hm:X.mg x=some u)(h:Q u s)
  (hd:nD0 x:=by decide):wpAny (model X.prog X.w) X.A (eval (.Name x pos) X.env) Q E s:=
 Calls.Name_function_global I.ok.kind hg (Calls.loadGlobal_global (by rw[I.ok.glob];exact I.mod.glob.keeps I.bk) hm h) hd
theorem gQ{E:Value→Shared→Prop}{pins:List (Addr×Obj)}{s:Shared}{σ:St}{H:Hp}{x:Str}{u:Value}{pos:Pos}{Q:Value→Shared→Prop}(I:Inv X pins σ H s)(hg:Gl X x)(hm:X.mg x=none)(hv:bootBuiltins x=some u)(h:Q u s)
  (hn:x≠"__name__":=by decide) (hd:nD0 x:=by decide):wpAny (model X.prog X.w) X.A (eval (.Name x pos) X.env) Q E s:=by
 obtain⟨mb,h1,h2⟩:=I.mod.blt;exact Calls.Name_function_global I.ok.kind hg (Calls.loadGlobal_builtin (by rw[I.ok.glob];exact I.mod.glob.keeps I.bk) hm (by rw[I.ok.blt];exact h1.keeps I.bk) ((h2 x hn).trans hv) h) hd
theorem rX{x:Str}{v:V}{u:Value}{pos:Pos}(hg:Gl X x)(hm:X.mg x=some u)(r:bn v u)(hd:nD0 x:=by decide):PE X (.Name x pos) (tC v):=
 fun _ _ _ H _ I h=>nM I hg hm ⟨v,H,I,r,h⟩ hd
theorem Eg{x:Str}{v:V}{u:Value}{pos:Pos}(hg:Gl X x)(hm:X.mg x=none)(hv:bootBuiltins x=some u)(r:bn v u)(hn:x≠"__name__":=by decide)(hd:nD0 x:=by decide):PE X (.Name x pos) (tC v):=
 fun _ _ _ H _ I h=>gQ I hg hm hv ⟨v,H,I,r,h⟩ hn hd
variable{a b:Expr}{ta tb:TE}{pos:Pos}
variable{tA YZ:TT}{rest:List Expr}
noncomputable def Lg(t u:TT):TT:=fun σ H Q=>t σ H fun c H1=>if c=true then u σ H1 Q else Q false H1
noncomputable def tOr(t u:TT):TT:=fun σ H Q=>t σ H fun c H1=>if c=true then Q true H1 else u σ H1 Q
noncomputable def La(t:TT):TT:=fun σ H Q=>t σ H fun c H1=>Q (!c) H1
theorem DP(ha:PT X a tA):PW X (.BoolOp .And [a] pos) tA:=by
 intro wh pins s σ H Q I h;refine isTrue_and (I_ (ha pins s σ H Q I h) fun c s1 e=>?_)
 cases c with
 |true=>exact isTrue_and_nil e
 |false=>exact e
theorem GZ(ha:PT X a tA):PW X (.BoolOp .Or [a] pos) tA:=by
 intro wh pins s σ H Q I h;refine isTrue_or (I_ (ha pins s σ H Q I h) fun c s1 e=>?_)
 cases c with
 |false=>exact isTrue_or_nil e
 |true=>exact e
theorem Ha(ha:PT X a tA)(hb:PW X (.BoolOp .And (b::rest) pos) YZ):PW X (.BoolOp .And (a::b::rest) pos) (Lg tA YZ):=by
 intro wh pins s σ H Q I h;refine isTrue_and (I_ (ha pins s σ H _ I h) ?_);rintro c s1 ⟨H1,I1,q1⟩
 cases c with
 |true=>exact hb wh pins s1 σ H1 Q I1 q1
 |false=>exact⟨H1,I1,q1⟩
theorem Jk(ha:PT X a tA)(hb:PW X (.BoolOp .Or (b::rest) pos) YZ):PW X (.BoolOp .Or (a::b::rest) pos) (tOr tA YZ):=by
 intro wh pins s σ H Q I h;refine isTrue_or (I_ (ha pins s σ H _ I h) ?_);rintro c s1 ⟨H1,I1,q1⟩
 cases c with
 |true=>exact⟨H1,I1,q1⟩
 |false=>exact hb wh pins s1 σ H1 Q I1 q1
theorem Hc(ha:PT X a tA):PT X (.UnaryOp .Not a pos) (La tA):=by intro pins s σ H Q I h;exact isTrue_not (ha pins s σ H (fun c H1=>Q (!c) H1) I h)
noncomputable def IR(ta tb:TE):TE:=fun σ H Q=>ta σ H fun x H1=>∃c,x=.bl c∧if c=true then tb σ H1 Q else Q (.bl false) H1
noncomputable def KZ(ta tb:TE):TE:=fun σ H Q=>ta σ H fun x H1=>∃c,x=.bl c∧if c=true then Q (.bl true) H1 else tb σ H1 Q
noncomputable def IK(ta:TE):TE:=fun σ H Q=>ta σ H fun x H1=>∃c,x=.bl c∧Q (.bl (!c)) H1
theorem Hs{op}{t:TE}(h:PE X a t):PE X (.BoolOp op [a] pos) t:=fun pins s σ H Q I hw=>BoolOp_one (h pins s σ H Q I hw)
theorem Hw(ha:PE X a ta)(hb:PE X (.BoolOp .And (b::rest) pos) tb):PE X (.BoolOp .And (a::b::rest) pos) (IR ta tb):=by
 intro pins s σ H Q I h;refine BoolOp_and (I_ (ha pins s σ H _ I h) ?_);rintro v s1 ⟨x,H1,I1,r1,q1⟩;obtain⟨c,rfl,q1⟩:=q1
 cases r1
 refine wpAny_truthy_bool ?_
 cases c with
 |true=>exact hb pins s1 σ H1 Q I1 q1
 |false=>exact⟨.bl false,H1,I1,rfl,q1⟩
theorem Jn(ha:PE X a ta)(hb:PE X (.BoolOp .Or (b::rest) pos) tb):PE X (.BoolOp .Or (a::b::rest) pos) (KZ ta tb):=by
 intro pins s σ H Q I h;refine BoolOp_or (I_ (ha pins s σ H _ I h) ?_);rintro v s1 ⟨x,H1,I1,r1,q1⟩;obtain⟨c,rfl,q1⟩:=q1
 cases r1
 refine wpAny_truthy_bool ?_
 cases c with
 |false=>exact hb pins s1 σ H1 Q I1 q1
 |true=>exact⟨.bl true,H1,I1,rfl,q1⟩
theorem Ht(ha:PE X a ta):PE X (.UnaryOp .Not a pos) (IK ta):=by
 intro pins s σ H Q I h;refine UnaryOp_ (I_ (ha pins s σ H _ I h) ?_);rintro v s1 ⟨x,H1,I1,r1,q1⟩;obtain⟨c,rfl,q1⟩:=q1
 cases r1
 exact not_of (wpAny_truthy_bool ⟨.bl (!c),H1,I1,rfl,q1⟩)
noncomputable def tIf(t:TT)(ta tb:TE):TE:=fun σ H Q=>t σ H fun c H1=>if c=true then ta σ H1 Q else tb σ H1 Q
theorem Bs{c:Expr}(hc:PT X c tA)(ha:PE X a ta)(hb:PE X b tb):PE X (.IfExp c a b pos) (tIf tA ta tb):=by
 intro pins s σ H Q I h;refine wpAny_IfExp (I_ (hc pins s σ H _ I h) ?_);rintro d s1 ⟨H1,I1,q1⟩
 cases d with
 |true=>exact ha pins s1 σ H1 Q I1 q1
 |false=>exact hb pins s1 σ H1 Q I1 q1
end
def Og(K:W.Frag)(H:Hp)(a:Addr)(xs:List V):Prop:=
 Rd H a (.lst xs)∨
  ∃(o:Obj)(its:Array Value)(n:Nat),K.lookup a=some o∧o.cls=.type "list"∧o.dict=none∧o.data=.seq its n∧its.size≤sizeLine∧aW xs its.toList
def O5(K:W.Frag)(H:Hp)(a:Addr)(xs:List V):Prop:=
 Rd H a (.tup xs)∨
  ∃(o:Obj)(its:Array Value)(n:Nat),K.lookup a=some o∧o.cls=.type "tuple"∧o.data=.seq its n∧its.size≤sizeLine∧aW xs its.toList
noncomputable def Mz:Value→Option V
 |.none=>some .non
 |.bool b=>some (.bl b)
 |.int i _=>some (.int i)
 |.str x _=>some (.str x)
 |.bytes b _=>some (.YC b)
 |.float b _=>some (.flt b)
 |.ref a=>some (.ref a)
 |.type n=>some (.ty n)
 |_=>none
theorem bn.abs{x:V}{u:Value}(r:bn x u):Mz u=some x:=by
 cases x with
 |non=>cases r;rfl
 |bl _=>cases r;rfl
 |int _=>obtain⟨t,rfl⟩:=r;rfl
 |str _=>obtain⟨t,rfl⟩:=r;rfl
 |YC _=>obtain⟨t,rfl⟩:=r;rfl
 |flt _=>obtain⟨t,rfl⟩:=r;rfl
 |ref _=>cases r;rfl
 |ty _=>cases r;rfl
theorem bn.inj{x y:V}{u:Value}(r:bn x u)(q:bn y u):x=y:=Option.some.inj (r.abs.symm.trans q.abs)
theorem aW.inj:∀{xs ys:List V}{us:List Value},aW xs us→aW ys us→xs=ys
 |_,_,_,.nil,.nil=>rfl
 |_,_,_,.cons r t,.cons r' t'=>by rw[r.inj r',aW.inj t t']
section
variable{X:Cx}{pins:List (Addr×Obj)}{σ:St}{H:Hp}{s:Shared}{a:Addr}{xs ys:List V}
theorem Og.of{K:W.Frag}(h:H a=some (.lst xs)):Og K H a xs:=.inl (.inl h)
theorem O5.of{K:W.Frag}(h:H a=some (.tup xs)):O5 K H a xs:=.inl (.inl h)
theorem Inv.list(I:Inv X pins σ H s)(h:Og X.K H a xs):∃its:List Value,aW xs its∧PlainL s.heap a its.toArray∧xs.length≤sizeLine:=by
 rcases h with h|⟨o,its,n,hk,hc,hd,hs,hz,r⟩
 ·obtain⟨z,its,n,r,e⟩:=h.ok I.hok;exact⟨its,r,⟨_,n,e,rfl,rfl,rfl⟩,z⟩
 ·refine⟨its.toList,r,⟨o,n,I.RJ a o hk,hc,hd,by simpa using hs⟩,?_⟩;have e:=r.length;simp only[Array.length_toList]at e;omega
theorem Inv.tuple(I:Inv X pins σ H s)(h:O5 X.K H a xs):∃its:List Value,aW xs its∧IsTup s.heap a its.toArray∧xs.length≤sizeLine:=by
 rcases h with h|⟨o,its,n,hk,hc,hs,hz,r⟩
 ·obtain⟨z,its,r,p⟩:=h.ok I.hok;exact⟨its,r,p,z⟩
 ·refine⟨its.toList,r,⟨o,I.RJ a o hk,hc,n,by simpa using hs⟩,?_⟩;have e:=r.length;simp only[Array.length_toList]at e;omega
theorem Inv.Tz(I:Inv X pins σ H s)(h:Og X.K H a xs)(h':Og X.K H a ys):xs=ys:=by
 obtain⟨its,r,⟨o,n,e,_,_,d⟩,_⟩:=I.list h;obtain⟨Rf,r',⟨o',n',e',_,_,d'⟩,_⟩:=I.list h';rw[e]at e';cases e';rw[d]at d';injection d' with d1 _
 have:its=Rf:=by simpa using congrArg Array.toList d1
 subst this;exact r.inj r'
theorem Inv.S7(I:Inv X pins σ H s)(h:O5 X.K H a xs)(h':O5 X.K H a ys):xs=ys:=by
 obtain⟨its,r,⟨o,e,_,n,d⟩,_⟩:=I.tuple h;obtain⟨Rf,r',⟨o',e',_,n',d'⟩,_⟩:=I.tuple h';rw[e]at e';cases e';rw[d]at d';injection d' with d1 _
 have:its=Rf:=by simpa using congrArg Array.toList d1
 subst this;exact r.inj r'
end
abbrev Cx.wish(X:Cx)(E:Value→Shared→Prop):Cx:={ X with xe:=E }
abbrev Cx.Wm(X:Cx):Cx:=X.wish fun _ _=>False
theorem Cx.Ok.wish{X:Cx}(ok:X.Ok)(E:Value→Shared→Prop):(X.wish E).Ok:=
 ⟨ok.mod,ok.kind,ok.glob,ok.blt,ok.above,ok.inj,ok.has,ok.cab,ok.hd,ok.frames,ok.stk,ok.Yv,ok.bs,ok.U7,ok.Tt,ok.Uh,ok.QH,ok.VG⟩
theorem Cx.Ok.P0{X:Cx}{E:Value→Shared→Prop}(ok:(X.wish E).Ok):X.Ok:=
 ⟨ok.mod,ok.kind,ok.glob,ok.blt,ok.above,ok.inj,ok.has,ok.cab,ok.hd,ok.frames,ok.stk,ok.Yv,ok.bs,ok.U7,ok.Tt,ok.Uh,ok.QH,ok.VG⟩
section
variable{X:Cx}{pins:List (Addr×Obj)}{σ:St}{H:Hp}{s:Shared}{E:Value→Shared→Prop}
theorem Inv.wish(I:Inv X pins σ H s)(E:Value→Shared→Prop):Inv (X.wish E) pins σ H s:=⟨I.ok.wish E,I.os,I.bare,I.base,I.loc,I.cell,I.free,I.Ol,I.pin,I.hok,I.len⟩
theorem Inv.P0(I:Inv (X.wish E) pins σ H s):Inv X pins σ H s:=⟨I.ok.P0,I.os,I.bare,I.base,I.loc,I.cell,I.free,I.Ol,I.pin,I.hok,I.len⟩
theorem SP.P0{D:pO}{f:Flow}{s':Shared}(h:SP (X.wish E) pins D f s'):SP X pins D f s':=by
 cases f with
 |next=>obtain⟨σ',H',I,q⟩:=h;exact⟨σ',H',I.P0,q⟩
 |brk=>obtain⟨σ',H',I,q⟩:=h;exact⟨σ',H',I.P0,q⟩
 |cont=>obtain⟨σ',H',I,q⟩:=h;exact⟨σ',H',I.P0,q⟩
 |ret u=>obtain⟨v,σ',H',I,r,q⟩:=h;exact⟨v,σ',H',I.P0,r,q⟩
theorem Sw.Wm{st:List Stmt}{t:TS}(h:Sw X.Wm st t):Sw X st t:=fun pins s σ H D I hw=>wpAny_mono (h pins s σ H D (I.wish _) hw) (fun _ _ q=>q.P0) fun _ _ z=>False.elim z
end
section
variable{X:Cx}{st:Stmt}{rest:List Stmt}{t u:TS}{e:Expr}{te:TE}{pos:Pos}
noncomputable def IL:TS:=fun D σ H=>D.nx σ H
noncomputable def KW(t u:TS):TS:=fun D σ H=>t { D with nx:=u D } σ H
theorem DR:Sw X [] IL:=fun _ _ σ H _ I h=>wpAny_execs_nil ⟨σ,H,I,h⟩
theorem AW(h1:PS X st t)(h2:Sw X rest u):Sw X (st::rest) (KW t u):=by
 intro pins s σ H D I h;refine wpAny_execs_cons (I_ (h1 pins s σ H { D with nx:=u D } I h) fun f s1 q=>?_)
 cases f with
 |next=>obtain⟨σ',H',I',q⟩:=q;exact h2 pins s1 σ' H' D I' q
 |ret v=>exact q
 |brk=>exact q
 |cont=>exact q
theorem xx(h1:PS X st t):Sw X [st] t:=by
 intro pins s σ H D I h;refine wpAny_execs_cons (I_ (h1 pins s σ H D I h) fun f s1 q=>?_)
 cases f with
 |next=>exact wpAny_execs_nil q
 |ret v=>exact q
 |brk=>exact q
 |cont=>exact q
theorem Inv.quiet{pins:List (Addr×Obj)}{σ:St}{H:Hp}{s:Shared}(I:Inv X pins σ H s):interactive X.env=false:=by simp[interactive,I.ok.kind]
noncomputable def IM(te:TE):TS:=fun D σ H=>te σ H fun _ H1=>D.nx σ H1
theorem DU(he:PE X e te)(hs:swapsWith e none pos.line X.env=pure false:=by rfl):PS X (.Expr e pos) (IM te):=by intro pins s σ H D I h;exact wpAny_Expr_any (I_ (he pins s σ H _ I h) (by rintro v s1 ⟨x,H1,I1,r1,q1⟩;exact ⟨σ,H1,I1,q1⟩)) I.quiet hs
noncomputable def KY(te:TE):TS:=fun D σ H=>te σ H D.rt
theorem Hg(he:PE X e te):PS X (.Return (some e) pos) (KY te):=by intro pins s σ H D I h;exact wpAny_Return_some (I_ (he pins s σ H _ I h) (by rintro v s1 ⟨x,H1,I1,r1,q1⟩;exact ⟨x,σ,H1,I1,r1,q1⟩))
noncomputable def II:TS:=fun D _ H=>D.rt .non H
theorem DT:PS X (.Return none pos) II:=fun _ _ σ H _ I h=>wpAny_Return_none ⟨.non,σ,H,I,rfl,h⟩
noncomputable def Ld(c:TT)(t u:TS):TS:=fun D σ H=>c σ H fun b H1=>if b=true then t D σ H1 else u D σ H1
theorem Jl{c:Expr}{a b:List Stmt}{tc:TT}(hc:PT X c tc)(ha:Sw X a t)(hb:Sw X b u):PS X (.If c a b pos) (Ld tc t u):=by
 intro pins s σ H D I h;refine wpAny_If (I_ (hc pins s σ H _ I h) ?_);rintro d s1 ⟨H1,I1,q1⟩
 cases d with
 |true=>exact ha pins s1 σ H1 D I1 q1
 |false=>exact hb pins s1 σ H1 D I1 q1
end
abbrev TG:=V→St→Hp→(St→Hp→Prop)→Prop
abbrev Wy:=List V→St→Hp→(St→Hp→Prop)→Prop
def PG(X:Cx)(target:Expr)(t:TG):Prop:=
 ∀(pins:List (Addr×Obj))(s:Shared)(σ:St)(H:Hp)(v:V)(u:Value)(Q:St→Hp→Prop),Inv X pins σ H s→bn v u→t v σ H Q→
  wpAny (model X.prog X.w) X.A (assign target X.env u) (fun _ s'=>∃ σ' H',Inv X pins σ' H' s'∧Q σ' H') X.xe s
def VN(X:Cx)(ts:List Expr)(t:Wy):Prop:=
 ∀(pins:List (Addr×Obj))(s:Shared)(σ:St)(H:Hp)(vs:List V)(us:List Value)(Q:St→Hp→Prop),Inv X pins σ H s→aW vs us→t vs σ H Q→
  wpAny (model X.prog X.w) X.A (assignInOrder ((assignEach ts X.env).map (·.2)) us) (fun _ s'=>∃ σ' H',Inv X pins σ' H' s'∧Q σ' H') X.xe s
abbrev Ir:=V→V→V→Hp→(Hp→Prop)→Prop
def Km(X:Cx)(t:Ir):Prop:=
 ∀(pins:List (Addr×Obj))(s:Shared)(σ:St)(H:Hp)(o i v:V)(ov iv u:Value)(Q:Hp→Prop),Inv X pins σ H s→bn o ov→bn i iv→bn v u→t o i v H Q→
  wpAny (model X.prog X.w) X.A (setItem ov iv u) (fun _ s'=>∃H',Inv X pins σ H' s'∧Q H') X.xe s
section
variable{X:Cx}{pos:Pos}
noncomputable def ye(i:Nat):TG:=fun v σ H Q=>Q (σ.set i (some v)) H
theorem nJ{i:Nat}{x:Str}(hN:X.N.Nodup)(hi:X.N[i]? =some x)(hx:Loc X.env.scope x)(hf:X.fn x=true∨X.env.scope.names.lookup x=some .local:=by first|exact .inl rfl|exact .inr rfl|assumption):PG X (.Name x pos) (ye i):=by intro pins s σ H v u Q I r h;exact wpAny_assign_Name (oq I hN hi hx r (fun s' I'=>⟨_,H,I',h⟩) hf)
noncomputable def Mj:Wy:=fun vs σ H Q=>vs= []∧Q σ H
noncomputable def JV(t:TG)(u:Wy):Wy:=fun vs σ H Q=>∃v r,vs=v::r∧t v σ H fun σ' H'=>u r σ' H' Q
theorem Ea:VN X [] Mj:=by
 intro pins s σ H vs us Q I r h;obtain⟨e,h⟩:=h;subst e
 cases r
 exact assignInOrder_nil ⟨σ,H,I,h⟩
theorem Bp{e:Expr}{es:List Expr}{t:TG}{u:Wy}(h1:PG X e t)(h2:VN X es u)
  (hs:(assignEach (e::es) X.env).map (·.2)=assign e X.env::(assignEach es X.env).map (·.2):=by rfl):VN X (e::es) (JV t u):=by
 intro pins s σ H vs us Q I r h;obtain⟨v,vr,e1,h⟩:=h;subst e1
 cases r with
 |cons r rr=>rw[hs];refine assignInOrder_cons (I_ (h1 pins s σ H _ _ _ I r h) ?_);rintro _ s1 ⟨σ1,H1,I1,q1⟩;exact h2 pins s1 σ1 H1 _ _ Q I1 rr q1
noncomputable def Mh(K:W.Frag)(n:Nat)(t:Wy):TG:=fun v σ H Q=>∃a xs,v=.ref a∧O5 K H a xs∧xs.length=n∧t xs σ H Q
theorem Hl{es:List Expr}{k:Nat}{t:Wy}{n:Nat}(hc:X.calm=true)(h:VN X es t)
  (hn:(assignEach es X.env).length=n:=by rfl) (hst:(assignEach es X.env).findIdx? (·.1)=none:=by rfl):PG X (.Tuple es k pos) (Mh X.K n t):=by
 intro pins s σ H v u Q I r hw;obtain⟨a,xs,e1,hq,hl,hw⟩:=hw;subst e1
 cases r
 obtain⟨its,rv,ht,hz⟩:=I.tuple hq;refine assign_Tuple_tuple (I.ok.hd hc) ht (by simp[hn,← hl,rv.length]) hst fun h' hx=>?_;have I1:Inv X pins σ H { s with heap:=h' }:=I.kept (t':=s.toks) fun b o e=>hx b o (Nat.ne_of_lt (Heap.lt_size e)) e;exact h pins _ σ H xs _ Q I1 (by simpa using rv) hw
noncomputable def Mi(to ti:TE)(t:Ir):TG:=fun v σ H Q=>to σ H fun o H1=>ti σ H1 fun i H2=>t o i v H2 fun H3=>Q σ H3
theorem Hm{o i:Expr}{to ti:TE}{t:Ir}(ho:PE X o to)(hi:PE X i ti)(hs:Km X t)
  (ha:∀v,assign (.Subscript o i pos) X.env v=(do
   let ov ← holding [v] (eval o X.env)
   let iv ← holding [v,ov] (eval i X.env)
   standAt pos
   holding [v,ov,iv] (setItem ov iv v)
   release [v,ov,iv] []):=by intro _;rfl):PG X (.Subscript o i pos) (Mi to ti t):=by
 intro pins s σ H v u Q I r h;rw[ha];refine wpAny_bind (wpAny_holding (I_ (ho pins s σ H _ I h) ?_));rintro ov s1 ⟨x,H1,I1,r1,q1⟩;refine wpAny_bind (wpAny_holding (I_ (hi pins s1 σ H1 _ I1 q1) ?_));rintro iv s2 ⟨y,H2,I2,r2,q2⟩;refine wpAny_bind (wpAny_standAt (wpAny_bind (wpAny_holding (I_ (hs pins s2 σ H2 x y v ov iv u _ I2 r1 r2 r q2) ?_))));rintro _ s3 ⟨H3,I3,q3⟩;exact wpAny_release ⟨σ,H3,I3,q3⟩
noncomputable def IQ(te:TE)(g:TG):TS:=fun D σ H=>te σ H fun x H1=>g x σ H1 D.nx
theorem AZ{tg e:Expr}{te:TE}{g:TG}(he:PE X e te)(hg:PG X tg g)(hs:swapsWithSole [tg] e pos.line X.env=pure false:=by rfl)(hw:swappedStores [tg] e X.env=pure none:=by rfl)
  (h1:(assignEach [tg] X.env).map (·.2)=[assign tg X.env]:=by rfl):PS X (.Assign [tg] e pos) (IQ te g):=by
 intro pins s σ H D I h;refine wpAny_Assign_stores (I_ (he pins s σ H _ I h) ?_) hs hw;rintro v s1 ⟨x,H1,I1,r1,q1⟩;rw[h1];exact I_ (hg pins s1 σ H1 x v _ I1 r1 q1) fun _ s2 q=>q
theorem Hf{i:Nat}{x:Str}{e:Expr}{te:TE}{pos':Pos}(hN:X.N.Nodup)(hi:X.N[i]? =some x)(hx:Loc X.env.scope x)(he:PE X e te)(hs:swapsWith e (some (.Name x pos')) pos.line X.env=pure false:=by rfl)(hf:X.fn x=true∨X.env.scope.names.lookup x=some .local:=by first|exact .inl rfl|exact .inr rfl|assumption):
  PS X (.Assign [.Name x pos'] e pos) (IQ te (ye i)):=by
 intro pins s σ H D I h;refine wpAny_Assign_Name (I_ (he pins s σ H _ I h) ?_) hs;rintro v s1 ⟨y,H1,I1,r1,q1⟩;exact oq I1 hN hi hx r1 (fun s2 I2=>⟨_,H1,I2,q1⟩) hf
end
section
variable{X:Cx}{pos:Pos}
noncomputable def Gq(c:TT)(tb:TS):TS:=fun D σ H=>∃W:Nat→St→Hp→Prop,(∃m,W m σ H)∧∀m σ H,W m σ H→
 c σ H fun b H1=>if b=true then∃N:St→Hp→Prop,(∀ σ' H',N σ' H'→∃m',m'<m∧W m' σ' H')∧tb { D with nx:=N,ct:=N,bk:=D.nx } σ H1 else D.nx σ H1
theorem AX{c:Expr}{body:List Stmt}{tc:TT}{tb:TS}(hp:PassesOwn (model X.prog X.w) X.A X.env X.xe)(hc:PT X c tc)(hb:Sw X body tb):PS X (.While c body [] pos) (Gq tc tb):=by
 intro pins s σ H D I h;obtain⟨W,⟨m0,w0⟩,turn⟩:=h;refine wpAny_While (codeAny_whileLoop (fun n s'=>∃ σ' H',Inv X pins σ' H' s'∧W n σ' H') ?_ m0 ⟨σ,H,I,w0⟩)
 rintro n s1 ⟨σ1,H1,I1,w1⟩
 refine wpAny_passesOwn hp (I_ (hc pins s1 σ1 H1 _ I1 (turn n σ1 H1 w1)) ?_);rintro b s2 ⟨H2,I2,q2⟩
 cases b with
 |true=>
  obtain⟨N,hN,q2⟩:=q2;rw[if_pos rfl];refine wpAny_passesOwn hp (I_ (hb pins s2 σ1 H2 _ I2 q2) fun f s3 q3=>?_)
  cases f with
  |next=>obtain⟨σ3,H3,I3,n3⟩:=q3;obtain⟨m',hm,w3⟩:=hN σ3 H3 n3;exact⟨m',hm,σ3,H3,I3,w3⟩
  |cont=>obtain⟨σ3,H3,I3,n3⟩:=q3;obtain⟨m',hm,w3⟩:=hN σ3 H3 n3;exact⟨m',hm,σ3,H3,I3,w3⟩
  |brk=>exact q3
  |ret v=>exact q3
 |false=>rw[if_neg Bool.false_ne_true];exact wpAny_execs_nil ⟨σ1,H2,I2,q2⟩
end
structure It where
 go:Nat→Hp→Prop
 WD:Nat→Hp→V→Hp→Prop
 stop:Nat→Hp→Prop
def jT(X:Cx)(pins:List (Addr×Obj))(H:Hp)(b:Addr):Prop:=
 H b=none∧b≠X.env.locals∧b∉X.fs∧(b∈X.ex∨X.s₀.heap.objs.size≤b)∧(∀x c,X.env.cells.lookup x=some c→c≠b)∧∀p∈X.pn++pins,p.1≠b
theorem Inv.Ug{X:Cx}{pins:List (Addr×Obj)}{σ:St}{H H':Hp}{s:Shared}{b:Addr}(I:Inv X pins σ H s)(hb:s.heap.objs.size≤b)(hn:H' b=none):jT X pins H' b:=by
 refine⟨hn,Nat.ne_of_gt (Nat.lt_of_lt_of_le I.lt hb),I.X6 hb,.inr (Nat.le_trans I.sz hb),fun x c e z=>?_,fun p hp z=>?_⟩
 ·obtain⟨v,q⟩:=I.cell x c e;exact absurd (Nat.lt_of_lt_of_le q.lt (by rw[z];exact hb)) (Nat.lt_irrefl _)
 ·exact absurd (Nat.lt_of_lt_of_le (Heap.lt_size (I.pin p hp).1) (by rw[z];exact hb)) (Nat.lt_irrefl _)
structure zW(P:Program)(w:World)(K:W.Frag)(tg:Expr)(J:It)(fp:List Addr)(it:Addr)(tn:Nat→Heap→Prop):Prop where
 mem:it∈fp
 obj:∀i h,tn i h→∀b∈fp,∃o,h.get? b=some o∧∀v,o.data≠.cell v
 keep:∀i h h',tn i h→(∀b∈fp,∀o,h.get? b=some o→h'.get? b=some o)→tn i h'
 item:∀(X:Cx),X.prog=P→X.w=w→X.K=K→X.calm=true→∀(i:Nat)(pins:List (Addr×Obj))(s:Shared)(σ:St)(H:Hp)(E:Value→Shared→Prop),Inv X pins σ H s→(∀b∈fp,jT X pins H b)→tn i s.heap→J.go i H→
  wpAny (model P w) X.A (pyNext (.ref it)) (fun r s1=>∃u,r=some u∧
   wpAny (model P w) X.A (letOwnedTupleGo tg (.ref it) u) (fun _ s2=>∃x H',Inv X pins σ H' s2∧bn x u∧J.WD i H x H'∧tn (i+1) s2.heap∧∀b∈fp,H' b=none) E s1) E s
 done:∀(X:Cx),X.prog=P→X.w=w→X.K=K→X.calm=true→∀(i:Nat)(pins:List (Addr×Obj))(s:Shared)(σ:St)(H:Hp)(E:Value→Shared→Prop),Inv X pins σ H s→(∀b∈fp,jT X pins H b)→tn i s.heap→J.stop i H→
  wpAny (model P w) X.A (pyNext (.ref it)) (fun r s1=>r=none∧Inv X pins σ H s1) E s
 self:∀(A:Around)(i:Nat)(s:Shared)(Q:Value→Shared→Prop)(E:Value→Shared→Prop),tn i s.heap→Q (.ref it) s→wpAny (model P w) A (pyIter (.ref it)) Q E s
abbrev TI:=St→Hp→(It→Hp→Prop)→Prop
def PIE(X:Cx)(pins:List (Addr×Obj))(σ:St)(tg:Expr)(R:It→Hp→Prop)(Zf:Value)(s2:Shared):Prop:=
 ∃(it:Addr)(fp:List Addr)(tn:Nat→Heap→Prop)(J:It)(H':Hp),Zf=.ref it∧Inv X pins σ H' s2∧zW X.prog X.w X.K tg J fp it tn∧tn 0 s2.heap∧(∀b∈fp,jT X pins H' b)∧R J H'
def PI(X:Cx)(tg iter:Expr)(wi:TI):Prop:=
 ∀(pins:List (Addr×Obj))(s:Shared)(σ:St)(H:Hp)(R:It→Hp→Prop),Inv X pins σ H s→wi σ H R→
  wpAny (model X.prog X.w) X.A (eval iter X.env) (fun v s1=>wpAny (model X.prog X.w) X.A (pyIter v) (PIE X pins σ tg R) X.xe s1) X.xe s
theorem yd{M:Model}{A:Around}{E:Value→Shared→Prop}{s:Shared}{tg:Expr}{it:Addr}{u:Value}{o:Obj}{n:String}{vs:Array Value}{Q:Unit→Shared→Prop}(ho:s.heap.get? it=some o)(hc:o.cls=.type n)(hd:o.data=.fields vs)
    (hn: ["enumerate","zip","dict_itemiterator","dict_reverseitemiterator","odict_iterator","itertools.zip_longest","itertools.pairwise"].contains n=false) (hQ:Q () s):wpAny M A (letOwnedTupleGo tg (.ref it) u) Q E s:=by
  unfold letOwnedTupleGo
  cases tg<;>first
    |exact wpAny_pure hQ
    |(cases u<;>first
      |exact wpAny_pure hQ
      |(refine wpAny_bind (wpAny_load ho ?_)
        rw[hc,hd];show wpAny M A (if(["enumerate","zip","dict_itemiterator","dict_reverseitemiterator","odict_iterator","itertools.zip_longest","itertools.pairwise"].contains n&&vs[0]? ==some (rawInt _))=true then _ else _) Q E s;rw[if_neg (by intro h;rw[hn,Bool.false_and]at h;cases h)];exact wpAny_pure hQ))
noncomputable def Itl(K:W.Frag)(a:Addr):It:=
 ⟨fun i H=>∃xs x,Og K H a xs∧xs[i]? =some x,fun i H x H'=>H'=H∧∀xs,Og K H a xs→xs[i]? =some x,fun i H=>∃xs,Og K H a xs∧xs.length≤i⟩
noncomputable def Itt(K:W.Frag)(a:Addr):It:=
 ⟨fun i H=>∃xs x,O5 K H a xs∧xs[i]? =some x,fun i H x H'=>H'=H∧∀xs,O5 K H a xs→xs[i]? =some x,fun i H=>∃xs,O5 K H a xs∧xs.length≤i⟩
noncomputable def Zz(lo:Int)(n:Nat):It:=⟨fun i _=>i<n,fun i H x H'=>H'=H∧x=.int (lo+i),fun i _=>n≤i⟩
theorem yG{P:Program}{w:World}{K:W.Frag}{tg:Expr}(a it:Addr):zW P w K tg (Itl K a) [it] it (fun i h=>h.IsListIter it a i) where
 mem:=by simp
 obj:=fun i h st b hb=>by
  have e:b=it:=by simpa using hb
  subst e;obtain⟨o,e,c,d⟩:=st;exact⟨o,e,fun v z=>by rw[d]at z;cases z⟩
 keep:=fun i h h' st k=>st.at fun o e=>k it (by simp) o e
 item:=by intro X hP hw hK hc i pins s σ H E I hf st hg;subst hP hw hK;obtain⟨xs,x,hq,hx⟩:=hg;obtain⟨its,rv,p,hz⟩:=I.list hq;obtain⟨u,hu,ru⟩:=rv.get hx;obtain⟨f0,f1,f2,f3,f4,f5⟩:=hf it (by simp);refine wpAny_pyNext_list_item st p.isList (x:=u) (by simpa using hu) fun h' T6 sb=>?_;have I1:Inv X pins σ H { s with heap:=h' }:=I.turned (t':=s.toks) (fun b o hb e=>(sb.2 b hb).trans e) f0 f1 f3 f4 f5;obtain⟨o,e,c,d⟩:=id T6;exact⟨u,rfl,yd (s:={ s with heap:=h' }) e c d (by decide) ⟨x,H,I1,ru,⟨rfl,fun ys hy=>by rw[I.Tz hy hq];exact hx⟩,T6,fun b hb=>(hf b hb).1⟩⟩
 done:=by intro X hP hw hK hc i pins s σ H E I hf st hg;subst hP hw hK;obtain⟨xs,hq,hx⟩:=hg;obtain⟨its,rv,p,hz⟩:=I.list hq;obtain⟨f0,f1,f2,f3,f4,f5⟩:=hf it (by simp);have hl:=rv.length;exact wpAny_pyNext_list_end (I.ok.hd hc) st p.isList (by simp;omega) fun h' eb=>⟨rfl,I.turned (t':=s.toks) (fun b o hb e=>eb b o hb e) f0 f1 f3 f4 f5⟩
 self:=fun _ _ _ _ _ st h=>wpAny_pyIter_listiter st h
theorem vx{P:Program}{w:World}{K:W.Frag}{tg:Expr}(a it:Addr):zW P w K tg (Itt K a) [it] it (fun i h=>h.IsTupleIter it a i) where
 mem:=by simp
 obj:=fun i h st b hb=>by
  have e:b=it:=by simpa using hb
  subst e;obtain⟨o,e,c,d⟩:=st;exact⟨o,e,fun v z=>by rw[d]at z;cases z⟩
 keep:=fun i h h' st k=>st.at fun o e=>k it (by simp) o e
 item:=by intro X hP hw hK hc i pins s σ H E I hf st hg;subst hP hw hK;obtain⟨xs,x,hq,hx⟩:=hg;obtain⟨its,rv,p,hz⟩:=I.tuple hq;obtain⟨u,hu,ru⟩:=rv.get hx;obtain⟨f0,f1,f2,f3,f4,f5⟩:=hf it (by simp);refine wpAny_pyNext_tuple_item st (show s.heap.IsTuple a its.toArray from p) (x:=u) (by simpa using hu) fun h' T6 sb=>?_;have I1:Inv X pins σ H { s with heap:=h' }:=I.turned (t':=s.toks) (fun b o hb e=>(sb.2 b hb).trans e) f0 f1 f3 f4 f5;obtain⟨o,e,c,d⟩:=id T6;exact⟨u,rfl,yd (s:={ s with heap:=h' }) e c d (by decide) ⟨x,H,I1,ru,⟨rfl,fun ys hy=>by rw[I.S7 hy hq];exact hx⟩,T6,fun b hb=>(hf b hb).1⟩⟩
 done:=by intro X hP hw hK hc i pins s σ H E I hf st hg;subst hP hw hK;obtain⟨xs,hq,hx⟩:=hg;obtain⟨its,rv,p,hz⟩:=I.tuple hq;obtain⟨f0,f1,f2,f3,f4,f5⟩:=hf it (by simp);have hl:=rv.length;exact wpAny_pyNext_tuple_end (I.ok.hd hc) st (show s.heap.IsTuple a its.toArray from p) (by simp;omega) fun h' eb=>⟨rfl,I.turned (t':=s.toks) (fun b o hb e=>eb b o hb e) f0 f1 f3 f4 f5⟩
 self:=fun _ _ _ _ _ st h=>wpAny_pyIter_tupleiter st h
theorem vy{P:Program}{w:World}{K:PySem.W.Frag}{tg:Expr}(it:Addr)(lo:Int)(n:Nat):zW P w K tg (Zz lo n) [it] it (fun i h=>IsRangeIter h it (lo+(i:Nat) * 1) ((n:Int) - (i:Nat)) 1) where
 mem:=by simp
 obj:=fun i h st b hb=>by
  have e:b=it:=by simpa using hb
  subst e
  exact⟨_,st,fun v z=>by
   have z':Data.fields _=Data.cell v:=z
   cases z'⟩
 keep:=fun i h h' st k=>k it (by simp) _ st
 item:=by intro X hP hw hK hc i pins s σ H E I hf st hg;subst hP hw hK;obtain⟨f0,f1,f2,f3,f4,f5⟩:=hf it (by simp);have W:=Walks.range (prog:=X.prog) (w:=X.w) (I.ok.hd hc) it lo 1 n;refine W.item i s _ _ hg st fun v h' tk hv T6 kk=>?_;obtain⟨t,rfl⟩:=hv;have I1:Inv X pins σ H { s with heap:=h',toks:=tk }:=I.turned (fun b o hb e=>kk b o (by simpa using hb) e) f0 f1 f3 f4 f5;refine⟨_,rfl,yd (s:={ s with heap:=h',toks:=tk }) (n:="range_iterator") T6 rfl rfl (by decide) ⟨.int (lo+i),H,I1,⟨t,?_⟩,⟨rfl,rfl⟩,T6,fun b hb=>(hf b hb).1⟩⟩;rw[Int.mul_one]
 done:=by intro X hP hw hK hc i pins s σ H E I hf st hg;subst hP hw hK;obtain⟨f0,f1,f2,f3,f4,f5⟩:=hf it (by simp);exact wpAny_pyNext_range_end (I.ok.hd hc) st (by have:n≤i:=hg;omega) fun h' eb=>⟨rfl,I.turned (t':=s.toks) (fun b o hb e=>eb b o hb e) f0 f1 f3 f4 f5⟩
 self:=fun _ _ _ _ _ st h=>wpAny_pyIter_rangeiter st h
section
variable{X:Cx}{tg:Expr}
def JT(K:W.Frag)(tl:TE):TI:=fun σ H R=>tl σ H fun x H1=>∃a,x=.ref a∧(∃xs,Og K H1 a xs)∧R (Itl K a) H1
def Md(K:W.Frag)(tl:TE):TI:=fun σ H R=>tl σ H fun x H1=>∃a,x=.ref a∧(∃xs,O5 K H1 a xs)∧R (Itt K a) H1
theorem xF{l:Expr}{tl:TE}(hl:PE X l tl):PI X tg l (JT X.K tl):=by
 intro pins s σ H R I h;refine I_ (hl pins s σ H _ I h) ?_;rintro v s1 ⟨x,H1,I1,r1,q1⟩;obtain⟨a,e,⟨xs,hq⟩,q⟩:=q1;subst e
 cases r1
 obtain⟨its,rv,p,hz⟩:=I1.list hq;refine wpAny_pyIter_list p.isList ?_;refine⟨s1.heap.objs.size,[s1.heap.objs.size],_,_,H1,rfl,I1.kept (t':=s1.toks) fun b o e=>Heap.get?_push_of_some _ e,yG a _,⟨_,Heap.get?_push_size _ rfl,rfl,rfl⟩,fun b hb=>?_,q⟩;have e:b=s1.heap.objs.size:=by simpa using hb
 subst e;exact I1.Ug (ab2 _) (I1.hok.fresh (ab2 _))
theorem Hj{l:Expr}{tl:TE}(hl:PE X l tl):PI X tg l (Md X.K tl):=by
 intro pins s σ H R I h;refine I_ (hl pins s σ H _ I h) ?_;rintro v s1 ⟨x,H1,I1,r1,q1⟩;obtain⟨a,e,⟨xs,hq⟩,q⟩:=q1;subst e
 cases r1
 obtain⟨its,rv,p,hz⟩:=I1.tuple hq;refine wpAny_pyIter_tuple (show s1.heap.IsTuple a its.toArray from p) ?_;refine⟨s1.heap.objs.size,[s1.heap.objs.size],_,_,H1,rfl,I1.kept (t':=s1.toks) fun b o e=>Heap.get?_push_of_some _ e,vx a _,⟨_,Heap.get?_push_size _ rfl,rfl,rfl⟩,fun b hb=>?_,q⟩;have e:b=s1.heap.objs.size:=by simpa using hb
 subst e;exact I1.Ug (ab2 _) (I1.hok.fresh (ab2 _))
theorem AQ{pins:List (Addr×Obj)}{σ:St}{H:Hp}{s:Shared}{R:It→Hp→Prop}{E:Value→Shared→Prop}{lo hi:Int}{t u v:Tok}{tk:Nat}(I:Inv X pins σ H s)(h1: -(2 ^ 62)≤lo)(h2:lo<2 ^ 62)(h3: -(2 ^ 62)≤hi)(h4:hi<2 ^ 62)
  (q:R (Zz lo (hi - lo).toNat) H):wpAny (model X.prog X.w) X.A (pyIter (.ref s.heap.objs.size)) (PIE X pins σ tg R) E { s with heap:=s.heap.push { cls:=.type "range",data:=.fields #[.int lo t,.int hi u,.int 1 v] },toks:=tk }:=by
 refine wpAny_pyIter_range (IsRange.new ..) (small_one h1 h2 h3 h4) ?_;have I1:Inv X pins σ H { s with heap:=s.heap.push { cls:=.type "range",data:=.fields #[.int lo t,.int hi u,.int 1 v] },toks:=tk }:=I.kept fun b o e=>Heap.get?_push_of_some _ e
 refine⟨(s.heap.push { cls:=.type "range",data:=.fields #[.int lo t,.int hi u,.int 1 v] }).objs.size,[(s.heap.push { cls:=.type "range",data:=.fields #[.int lo t,.int hi u,.int 1 v] }).objs.size],_,_,H,rfl,
  I1.kept (t':=tk) fun b o e=>Heap.get?_push_of_some _ e,vy _ lo (hi - lo).toNat,?_,fun b hb=>?_,q⟩
 ·have e1:lo+((0:Nat):Int) * 1=lo:=by simp
  have e2:(((hi - lo).toNat:Nat):Int) - ((0:Nat):Int)=Builtin.Range.rangeSize lo hi 1:=by rw[rangeSize_one];split<;>omega
  show IsRangeIter _ _ (lo+((0:Nat):Int) * 1) ((((hi - lo).toNat:Nat):Int) - ((0:Nat):Int)) 1;rw[e1,e2];exact Heap.get?_push_size _ rfl
 ·have e:b=(s.heap.push { cls:=.type "range",data:=.fields #[.int lo t,.int hi u,.int 1 v] }).objs.size:=by simpa using hb
  subst e;exact I1.Ug (ab2 _) (I1.hok.fresh (ab2 _))
def JS(ta:TA):TI:=fun σ H R=>ta σ H fun vs H1=>∃j:Int,vs= [.int j]∧ -(2 ^ 62)≤j∧j<2 ^ 62∧R (Zz 0 j.toNat) H1
theorem ze{a:Expr}{ta:TA}{p pos:Pos}(hg:Gl X "range")(hm:X.mg "range"=none)(ha:PA X [a] ta)(hs:starEach [a] X.env= [(false,eval a X.env)]:=by rfl):PI X tg (.Call (.Name "range" p) [a] [] pos) (JS ta):=by
 intro pins s σ H R I h;refine Call_ (gQ I hg hm boot_range (PyProof.Rows.callWith_type1 (I_ (ha pos pins s σ H _ I h) ?_) hs rfl));rintro us s1 ⟨vs,H1,I1,r1,q1⟩;obtain⟨j,e,q1,q2,q⟩:=q1;subst e
 cases r1 with
 |cons r rr=>
  cases rr
  obtain⟨t,rfl⟩:=r;exact call_range_1 (AQ I1 (by omega) (by omega) q1 q2 (by simpa using q))
noncomputable def Le(wi:TI)(g:TG)(tb:TS):TS:=fun D σ H=>wi σ H fun J H1=>∃W:Nat→Nat→St→Hp→Prop,(∃m,W 0 m σ H1)∧∀i m σ H,W i m σ H→
 (J.stop i H∧D.nx σ H)∨(J.go i H∧∃N:St→Hp→Prop,(∀ σ' H',N σ' H'→∃m',m'<m∧W (i+1) m' σ' H')∧∀x H',J.WD i H x H'→g x σ H' fun σ2 H2=>tb { D with nx:=N,ct:=N,bk:=D.nx } σ2 H2)
noncomputable def mx(fp:List Addr)(h:Heap):List (Addr×Obj):=fp.filterMap fun b=>(h.get? b).map fun o=>(b,o)
theorem eK{fp:List Addr}{h:Heap}{b:Addr}{o:Obj}(hb:b∈fp)(e:h.get? b=some o):(b,o)∈mx fp h:=List.mem_filterMap.mpr ⟨b,hb,by rw[e];rfl⟩
theorem zm{fp:List Addr}{h:Heap}{p:Addr×Obj}(hp:p∈mx fp h):p.1∈fp∧h.get? p.1=some p.2:=by
 obtain⟨b,hb,e⟩:=List.mem_filterMap.mp hp
 cases q:h.get? b with
 |none=>rw[q]at e;cases e
 |some o=>rw[q]at e;have e':(b,o)=p:=Option.some.inj e;subst e';exact⟨hb,q⟩
theorem Inv.pinned{pins:List (Addr×Obj)}{σ:St}{H:Hp}{s:Shared}{fp:List Addr}(I:Inv X pins σ H s)(hf:∀b∈fp,jT X pins H b)(ho:∀b∈fp,∃o,s.heap.get? b=some o∧∀v,o.data≠.cell v):Inv X (pins++mx fp s.heap) σ H s:=
 I.NQ fun p hp=>(List.mem_append.mp hp).elim (fun z=>I.pin p (List.mem_append_right _ z)) fun z=>by obtain⟨hb,e⟩:=zm z;obtain⟨f0,f1,f2,_⟩:=hf p.1 hb;obtain⟨o,e',d⟩:=ho p.1 hb;rw[e]at e';cases e';exact⟨e,f0,f1,f2,d⟩
theorem Inv.RV{pins pl:List (Addr×Obj)}{σ:St}{H:Hp}{s:Shared}(I:Inv X (pins++pl) σ H s):Inv X pins σ H s:=I.NQ fun p hp=>I.pin p (List.mem_append_right _ (List.mem_append_left _ hp))
theorem Hh{iter:Expr}{body:List Stmt}{wi:TI}{g:TG}{tb:TS}{pos:Pos}(hp:PassesOwn (model X.prog X.w) X.A X.env X.xe)(hc:X.calm=true)(hi:PI X tg iter wi)(hg:PG X tg g)(hb:Sw X body tb)
  (hs:∀x,foldedSetIterable iter X.env x=pure x:=by intro _;rfl):PS X (.For tg iter body [] pos) (Le wi g tb):=by
 intro pins s σ H D I h;refine wpAny_For (I_ (hi pins s σ H _ I h) fun v s1 h1=>I_ h1 fun Zf s2 h2=>?_) hs;obtain⟨it,fp,tn,J,H2,e,I2,T,V3,f2,W,⟨m0,w0⟩,turn⟩:=h2;subst e;have stat:∀{H':Hp},(∀b∈fp,H' b=none)→∀b∈fp,jT X pins H' b:=fun hn b hb=>⟨hn b hb,(f2 b hb).2⟩
 refine codeAny_forLoop_any (fun n s'=>∃i σ' H',Inv X pins σ' H' s'∧tn i s'.heap∧(∀b∈fp,H' b=none)∧W i n σ' H') ?_ m0 ⟨0,σ,H2,I2,V3,fun b hb=>(f2 b hb).1,w0⟩
 rintro n s3 ⟨i,σ3,H3,I3,st3,fr3,w3⟩
 rcases turn i n σ3 H3 w3 with⟨stop,qn⟩|⟨go,N,hN,step⟩
 ·refine wpAny_passesOwn hp (I_ (T.done X rfl rfl rfl hc i pins s3 σ3 H3 X.xe I3 (stat fr3) st3 stop) ?_);rintro r s4 ⟨hr,I4⟩;subst hr;exact wpAny_execs_nil ⟨σ3,H3,I4,qn⟩
 ·refine wpAny_passesOwn hp (I_ (T.item X rfl rfl rfl hc i pins s3 σ3 H3 X.xe I3 (stat fr3) st3 go) ?_);rintro r s4 ⟨u,hr,h4⟩;subst hr;refine wpAny_passesOwn hp (I_ h4 ?_);rintro _ s5 ⟨x,H5,I5,r5,y5,V2,Xg⟩;have Xm:=I5.pinned (stat Xg) (T.obj _ _ V2);refine wpAny_passesOwn hp (I_ (hg _ s5 σ3 H5 x u _ Xm r5 (step x H5 y5)) ?_);rintro _ s6 ⟨σ6,H6,I6,q6⟩;refine wpAny_passesOwn hp (I_ (hb _ s6 σ6 H6 _ I6 q6) fun f s7 q7=>?_)
  have again:∀{σ7:St}{H7:Hp},Inv X (pins++mx fp s5.heap) σ7 H7 s7→N σ7 H7→∃m,m<n∧∃i σ' H',Inv X pins σ' H' s7∧tn i s7.heap∧(∀b∈fp,H' b=none)∧W i m σ' H':=fun{σ7 H7} I7 n7=>by obtain⟨m',hm,w7⟩:=hN σ7 H7 n7;refine⟨m',hm,i+1,σ7,H7,I7.RV,T.keep _ _ _ V2 fun b hb o e=>(I7.pin (b,o) (List.mem_append_right _ (List.mem_append_right _ (eK hb e)))).1,fun b hb=>?_,w7⟩;obtain⟨o,e,d⟩:=T.obj _ _ V2 b hb;exact(I7.pin (b,o) (List.mem_append_right _ (List.mem_append_right _ (eK hb e)))).2.1
  cases f with
  |next=>obtain⟨σ7,H7,I7,n7⟩:=q7;exact again I7 n7
  |cont=>obtain⟨σ7,H7,I7,n7⟩:=q7;exact again I7 n7
  |brk=>obtain⟨σ7,H7,I7,q7⟩:=q7;exact⟨σ7,H7,I7.RV,q7⟩
  |ret v=>obtain⟨x7,σ7,H7,I7,r7,q7⟩:=q7;exact⟨x7,σ7,H7,I7.RV,r7,q7⟩
end
abbrev R2:=V→V→Hp→VK→Prop
def Ov(X:Cx)(f:Value→Value→Sem Value)(r:R2):Prop:=
 ∀(pins:List (Addr×Obj))(s:Shared)(σ:St)(H:Hp)(x y:V)(v u:Value)(Q:VK),Inv X pins σ H s→bn x v→bn y u→r x y H Q→
  wpAny (model X.prog X.w) X.A (f v u) (EP X pins σ Q) X.xe s
def Zw(X:Cx)(f:Value→Sem Value)(r:V→Hp→VK→Prop):Prop:=
 ∀(pins:List (Addr×Obj))(s:Shared)(σ:St)(H:Hp)(x:V)(v:Value)(Q:VK),Inv X pins σ H s→bn x v→r x H Q→
  wpAny (model X.prog X.w) X.A (f v) (EP X pins σ Q) X.xe s
def dh(X:Cx)(f:Value)(r:List V→Hp→VK→Prop):Prop:=
 ∀(pins:List (Addr×Obj))(s:Shared)(σ:St)(H:Hp)(xs:List V)(us:List Value)(Q:VK),Inv X pins σ H s→aW xs us→r xs H Q→
  wpAny (model X.prog X.w) X.A (call f us) (EP X pins σ Q) X.xe s
def MA(X:Cx)(r:V→Hp→(Bool→Hp→Prop)→Prop):Prop:=
 ∀(pins:List (Addr×Obj))(s:Shared)(σ:St)(H:Hp)(x:V)(v:Value)(Q:Bool→Hp→Prop),Inv X pins σ H s→bn x v→r x H Q→
  wpAny (model X.prog X.w) X.A (truthy v) (TP X pins σ Q) X.xe s
noncomputable def XC(r:R2)(ta tb:TE):TE:=fun σ H Q=>ta σ H fun x H1=>tb σ H1 fun y H2=>r x y H2 Q
noncomputable def tUn(r:V→Hp→VK→Prop)(ta:TE):TE:=fun σ H Q=>ta σ H fun x H1=>r x H1 Q
noncomputable def rI(C:Int→Int→Prop)(g:Int→Int→V):R2:=fun x y H Q=>∃i j,x=.int i∧y=.int j∧C i j∧Q (g i j) H
noncomputable def Vv(g:Int→Int→V):R2:=fun x y H Q=>∃i j,x=.int i∧y=.int j∧Q (g i j) H
def rU(g:Int→V):V→Hp→VK→Prop:=fun x H Q=>∃i,x=.int i∧Q (g i) H
section
variable{X:Cx}{a b c:Expr}{ta tb tc:TE}{pos:Pos}
theorem Ik(ha:PE X a ta)(hb:PE X b tb){pins:List (Addr×Obj)}{s:Shared}{σ:St}{H:Hp}{R:V→V→Hp→Prop}(I:Inv X pins σ H s)
  (h:ta σ H fun x H1=>tb σ H1 fun y H2=>R x y H2) {Q:Value→Shared→Prop} {f:Value→Value→Sem Value}
  (hf:∀v u s2 x y H2,Inv X pins σ H2 s2→bn x v→bn y u→R x y H2→wpAny (model X.prog X.w) X.A (f v u) Q X.xe s2):
  wpAny (model X.prog X.w) X.A (eval a X.env) (fun v s₁=>wpAny (model X.prog X.w) X.A (eval b X.env) (fun u s₂=>wpAny (model X.prog X.w) X.A (f v u) Q X.xe s₂) X.xe s₁) X.xe s:=by
 refine I_ (ha pins s σ H _ I h) ?_;rintro v s1 ⟨x,H1,I1,r1,q1⟩;refine I_ (hb pins s1 σ H1 _ I1 q1) ?_;rintro u s2 ⟨y,H2,I2,r2,q2⟩;exact hf v u s2 x y H2 I2 r1 r2 q2
theorem Jo{op:Operator}{r:R2}(ho:Ov X (binaryOp op) r)(ha:PE X a ta)(hb:PE X b tb):PE X (.BinOp a op b pos) (XC r ta tb):=by intro pins s σ H Q I h;exact wpAny_BinOp (Ik ha hb I h fun v u s2 x y H2 I2 rx ry q=>ho pins s2 σ H2 x y v u Q I2 rx ry q)
theorem Jm{op:UnaryOp}{r:V→Hp→VK→Prop}(ho:Zw X (unaryOp op) r)(ha:PE X a ta):PE X (.UnaryOp op a pos) (tUn r ta):=by intro pins s σ H Q I h;exact UnaryOp_ (I_ (ha pins s σ H _ I h) (by rintro v s1 ⟨x,H1,I1,r1,q1⟩;exact ho pins s1 σ H1 x v Q I1 r1 q1))
theorem ZX{f:Value→Value→Sem Value}{C:Int→Int→Prop}{g:Int→Int→Int}
  (rule:∀(i j:Int)(t u:Tok)(s:Shared)(Q:Value→Shared→Prop)(E:Value→Shared→Prop),C i j→Q (.int (g i j) s.toks) { s with toks:=s.toks+1 }→wpAny (model X.prog X.w) X.A (f (.int i t) (.int j u)) Q E s):
  Ov X f (rI C fun i j=>.int (g i j)):=by
 intro pins s σ H x y v u Q I rx ry h;obtain⟨i,j,rfl,rfl,hc,q⟩:=h;obtain⟨t,rfl⟩:=rx;obtain⟨t',rfl⟩:=ry;exact rule i j t t' s _ _ hc ⟨.int (g i j),H,I.tok _,⟨_,rfl⟩,q⟩
theorem Jx{f:Value→Value→Sem Value}{g:Int→Int→Int}
  (rule:∀(i j:Int)(t u:Tok)(s:Shared)(Q:Value→Shared→Prop)(E:Value→Shared→Prop),Q (.int (g i j) s.toks) { s with toks:=s.toks+1 }→wpAny (model X.prog X.w) X.A (f (.int i t) (.int j u)) Q E s):
  Ov X f (Vv fun i j=>.int (g i j)):=by
 intro pins s σ H x y v u Q I rx ry h;obtain⟨i,j,rfl,rfl,q⟩:=h;obtain⟨t,rfl⟩:=rx;obtain⟨t',rfl⟩:=ry;exact rule i j t t' s _ _ ⟨.int (g i j),H,I.tok _,⟨_,rfl⟩,q⟩
theorem HC{f:Value→Value→Sem Value}{g:Int→Int→Bool}
  (rule:∀(i j:Int)(t u:Tok)(s:Shared)(Q:Value→Shared→Prop)(E:Value→Shared→Prop),Q (.bool (g i j)) s→wpAny (model X.prog X.w) X.A (f (.int i t) (.int j u)) Q E s):
  Ov X f (Vv fun i j=>.bl (g i j)):=by
 intro pins s σ H x y v u Q I rx ry h;obtain⟨i,j,rfl,rfl,q⟩:=h;obtain⟨t,rfl⟩:=rx;obtain⟨t',rfl⟩:=ry;exact rule i j t t' s _ _ ⟨.bl (g i j),H,I,rfl,q⟩
def MD(i j:Int):Prop:=0<j∧j<1073741824
def Fm(i j:Int):Prop:=(-(2 ^ 64)<i∧i<2 ^ 64)∨(-(2 ^ 64)<j∧j<2 ^ 64)
theorem Fm.ok{i j:Int}(h:Fm i j):IntMulOk i j:=by
 rcases h with⟨h1,h2⟩|⟨h1,h2⟩
 ·exact .of_left (intBits_le_64 h1 h2)
 ·exact .of_right (intBits_le_64 h1 h2)
theorem HB:Ov X (binaryOp .Add) (Vv fun i j=>.int (i+j)):=Jx fun _ _ _ _ _ _ _ q=>add_int q
theorem Hx:Ov X (binaryOp .Sub) (Vv fun i j=>.int (i - j)):=Jx fun _ _ _ _ _ _ _ q=>sub_int q
theorem El:Ov X (binaryOp .FloorDiv) (rI MD fun i j=>.int (i / j)):=ZX fun i j _ _ _ _ _ hc q=>by have h1:(0:Int)<j:=hc.1;have h2:j<1073741824:=hc.2;exact floordiv_int (by omega) (by rw[Int.fdiv_eq_ediv_of_nonneg i (by omega)];exact q) (.inl (PyProof.noPylong_small (by omega)))
theorem Hz:Ov X (binaryOp .Mod) (rI (fun _ j=>0<j) fun i j=>.int (i % j)):=ZX fun i j _ _ _ _ _ hc q=>by have h1:(0:Int)<j:=hc;exact mod_int' (by omega) (by rw[Int.fmod_eq_emod_of_nonneg i (by omega)];exact q)
theorem unI{f:Value→Sem Value}{g:Int→Int}
  (rule:∀(i:Int)(t:Tok)(s:Shared)(Q:Value→Shared→Prop)(E:Value→Shared→Prop),Q (.int (g i) s.toks) { s with toks:=s.toks+1 }→wpAny (model X.prog X.w) X.A (f (.int i t)) Q E s):
  Zw X f (rU fun i=>.int (g i)):=by
 intro pins s σ H x v Q I rx h;obtain⟨i,rfl,q⟩:=h;obtain⟨t,rfl⟩:=rx;exact rule i t s _ _ ⟨.int (g i),H,I.tok _,⟨_,rfl⟩,q⟩
theorem Gk:Zw X (unaryOp .USub) (rU fun i=>.int (-i)):=unI fun _ _ _ _ _ q=>neg_int q
theorem zk:Ov X (binaryOp .Add) (fun x y H Q=>∃i k,x=.int i∧y=.bl k∧Q (.int (i+b2i k)) H):=by
 intro pins s σ H x y v u Q I rx ry h;obtain⟨i,k,rfl,rfl,q⟩:=h;obtain⟨t,rfl⟩:=rx
 cases ry
 exact add_int_bool ⟨.int (i+b2i k),H,I.tok _,⟨_,rfl⟩,q⟩
end
section
variable{X:Cx}{a b c:Expr}{ta tb tc:TE}{pos:Pos}
theorem Cu{pins:List (Addr×Obj)}{σ:St}{H:Hp}{s:Shared}{Q:VK}{k k':Bool}(I:Inv X pins σ H s)(q:Q (.bl k) H)(e:k=k'):EP X pins σ Q (.bool k') s:=by subst e;exact⟨.bl k,H,I,rfl,q⟩
theorem BC:Ov X (compareOp .Lt) (Vv fun i j=>.bl (decide (i<j))):=HC fun _ _ _ _ _ _ _ q=>lt_int q
theorem uz:Ov X (compareOp .Gt) (Vv fun i j=>.bl (decide (j<i))):=HC fun _ _ _ _ _ _ _ q=>gt_int q
theorem Jw:Ov X (compareOp .GtE) (Vv fun i j=>.bl (decide (j≤i))):=HC fun _ _ _ _ _ _ _ q=>ge_int q
theorem BD:Ov X (compareOp .Is) (fun x y H Q=>y=.non∧Q (.bl (decide (x=.non))) H):=by
 intro pins s σ H x y v u Q I rx ry h;obtain⟨rfl,q⟩:=h
 cases ry
 refine is_none_gen (Cu I q ?_)
 cases x<;>first
  |(cases rx;rfl)
  |(obtain⟨t,rfl⟩:=rx;rfl)
theorem sd:Ov X (compareOp .IsNot) (fun x y H Q=>y=.non∧Q (.bl (!decide (x=.non))) H):=by
 intro pins s σ H x y v u Q I rx ry h;obtain⟨rfl,q⟩:=h
 cases ry
 refine isnot_none_gen (Cu I q ?_)
 cases x<;>first
  |(cases rx;rfl)
  |(obtain⟨t,rfl⟩:=rx;rfl)
theorem cH(b:Expr){op:CmpOp}(h:op≠.In:=by decide)(h2:op≠.NotIn:=by decide):behindInMarks op b=false:=by
 have e1:(op==CmpOp.In)=false:=by cases op<;>first|rfl|exact absurd rfl h
 have e2:(op==CmpOp.NotIn)=false:=by cases op<;>first|rfl|exact absurd rfl h2
 cases b<;>simp[behindInMarks,e1,e2]
theorem Ef{op:CmpOp}{r:R2}(ho:Ov X (compareOp op) r)(ha:PE X a ta)(hb:PE X b tb)(hm:behindInMarks op b=false):PE X (.Compare a [op] [b] pos) (XC r ta tb):=by intro pins s σ H Q I h;exact wpAny_Compare1 (Ik ha hb I h fun v u s2 x y H2 I2 rx ry q=>ho pins s2 σ H2 x y v u Q I2 rx ry q) hm
noncomputable def IH(t:TE):TT:=fun σ H Q=>t σ H fun x H'=>∃k,x=.bl k∧Q k H'
theorem DQ{op:CmpOp}{r:R2}(ho:Ov X (compareOp op) r)(ha:PE X a ta)(hb:PE X b tb)(hm:behindInMarks op b=false):PT X (.Compare a [op] [b] pos) (IH (XC r ta tb)):=by
 intro pins s σ H Q I h
 refine wpAny_isTrue_Compare1 (I_ (ha pins s σ H _ I h) fun v s1 ⟨x,H1,I1,r1,q1⟩=>I_ (hb pins s1 σ H1 _ I1 q1) fun u s2 ⟨y,H2,I2,r2,q2⟩=>I_ (ho pins s2 σ H2 x y v u _ I2 r1 r2 q2) ?_) hm;rintro c s3 ⟨z,H3,I3,r3,k,e,q3⟩
 subst e
 cases r3
 exact wpAny_truthy_bool ⟨H3,I3,q3⟩
def Iq(K:W.Frag)(x:V)(H:Hp)(k:Bool):Prop:=
 match x with
 |.non=>k=false
 |.bl b=>k=b
 |.int i=>k=(i !=0)
 |.str y=>y.length≤sizeLine∧k=((y.length:Int) !=0)
 |.YC y=>y.size≤sizeLine∧k=((y.size:Int) !=0)
 |.ref p=>(∃xs,Og K H p xs∧k=!xs.isEmpty)∨(∃xs,O5 K H p xs∧k=!xs.isEmpty)∨∃kvs,H p=some (.dK kvs)∧k=!kvs.isEmpty
 |_=>False
theorem wo{κ:Type}{kvs:List (κ×V)}{vs:List (κ×Value)}(r:KV kvs vs):(!vs.isEmpty)=!kvs.isEmpty:=by cases r<;>rfl
theorem pd{xs:List V}{its:List Value}(r:aW xs its):(!its.toArray.isEmpty)=!xs.isEmpty:=by cases r<;>simp
theorem kr:(sizeLine:Nat)<2 ^ 63:=by rw[sizeLine_eq];decide
theorem Gp:MA X (fun x H Q=>∃k,Iq X.K x H k∧Q k H):=by
 intro pins s σ H x v Q I rx h;obtain⟨k,e,q⟩:=h;have hl:=kr;have hs:sizeLine=16777216:=sizeLine_eq
 cases x with
 |non=>
  cases rx
  have e':k=false:=e;subst e';exact truthy_none ⟨H,I,q⟩
 |bl b=>
  cases rx
  have e':k=b:=e;subst e';exact wpAny_truthy_bool ⟨H,I,q⟩
 |int i=>obtain⟨t,rfl⟩:=rx;have e':k=(i !=0):=e;subst e';exact PySem.P.truthy_int ⟨H,I,q⟩
 |str y=>obtain⟨t,rfl⟩:=rx;obtain⟨hy,e'⟩:y.length≤sizeLine∧k=((y.length:Int) !=0):=e;subst e';exact PySem.P.truthy_str (by omega) ⟨H,I.tok _,q⟩
 |YC y=>obtain⟨t,rfl⟩:=rx;obtain⟨hy,e'⟩:y.size≤sizeLine∧k=((y.size:Int) !=0):=e;subst e';exact W.truthy_bytes (by omega) ⟨H,I.tok _,q⟩
 |ref p=>
  cases rx
  have e':(∃xs,Og X.K H p xs∧k=!xs.isEmpty)∨(∃xs,O5 X.K H p xs∧k=!xs.isEmpty)∨∃kvs,H p=some (.dK kvs)∧k=!kvs.isEmpty:=e;rcases e' with⟨xs,hx,e'⟩|⟨xs,hx,e'⟩|⟨kvs,hx,e'⟩
  ·subst e';obtain⟨its,r,pl,hz⟩:=I.list hx;have L_:=r.length;exact wpAny_truthy_list pl.isList (by simp only[List.size_toArray];omega) ⟨H,I.tok _,by rw[pd r];exact q⟩
  ·subst e';obtain⟨its,r,pl,hz⟩:=I.tuple hx;have L_:=r.length;exact truthy_tuple pl (by simp only[List.size_toArray];omega) ⟨H,I.tok _,by rw[pd r];exact q⟩
  ·subst e';obtain⟨hz,hS,vs,r,m⟩:kvs.length≤sizeLine∧(p==sysModules)=false∧∃vs,KV kvs vs∧s.heap.DictOf (bW X.prog X.w) p vs:=I.hok p _ hx;have L_:kvs.length=vs.length:=Paired.length r;exact wpAny_truthy_dict hS m (by omega) ⟨H,I.tok _,by rw[wo r];exact q⟩
 |_=>exact(show False from e).elim
theorem AV(ha:PE X a ta)(he:∀whole,isTrue a X.env whole=(do let v ← whole;standAt a.pos;holding [v] (truthy v))):
  PT X a (fun σ H Q=>ta σ H fun x H'=>∃k,Iq X.K x H' k∧Q k H'):=by
 intro pins s σ H Q I h;exact isTrue_plain (I_ (ha pins s σ H _ I h) (by rintro v s1 ⟨x,H1,I1,r1,q1⟩;exact Gp pins s1 σ H1 x v Q I1 r1 q1)) (he _)
theorem vW:Ov X (binaryOp .Add) (fun x y H Q=>∃i j,x=.str i∧y=.str j∧i.length+j.length≤sizeLine∧Q (.str (i++j)) H):=by intro pins s σ H x y v u Q I rx ry h;obtain⟨i,j,rfl,rfl,hz,q⟩:=h;obtain⟨t,rfl⟩:=rx;obtain⟨t',rfl⟩:=ry;exact add_str (fun t' tk=>⟨.str (i++j),H,I.tok _,⟨_,rfl⟩,q⟩) hz
theorem og{x:V}{us:List Value}(r:aW [x] us):∃u,us= [u]∧bn x u:=by
 cases r with
 |cons r1 r2=>cases r2;exact⟨_,rfl,r1⟩
theorem Af{x y:V}{us:List Value}(r:aW [x,y] us):∃u w',us= [u,w']∧bn x u∧bn y w':=by
 cases r with
 |cons r1 r2=>
  cases r2 with
  |cons r3 r4=>cases r4;exact⟨_,_,rfl,r1,r3⟩
theorem zM(hc:X.calm=true):dh X (.builtin "max") (fun xs H Q=>∃i j,xs= [.int i,.int j]∧Q (.int (if j>i then j else i)) H):=by
 intro pins s σ H xs us Q I r h;obtain⟨i,j,rfl,q⟩:=h;obtain⟨u,w',rfl,⟨t,rfl⟩,⟨t',rfl⟩⟩:=Af r;refine max_two_ints (I.ok.hd hc) fun h' tk k=>⟨_,H,I.kept k,?_,q⟩
 by_cases hj:j>i
 ·rw[if_pos hj,if_pos hj];exact⟨_,rfl⟩
 ·rw[if_neg hj,if_neg hj];exact⟨_,rfl⟩
theorem zP:dh X (.type "int") (fun xs H Q=>(∃i,xs= [.int i]∧Q (.int i) H)∨∃k,xs= [.bl k]∧Q (.int (if k then 1 else 0)) H):=by
 intro pins s σ H xs us Q I r h;rcases h with⟨i,rfl,q⟩|⟨k,rfl,q⟩
 ·obtain⟨u,rfl,t,rfl⟩:=og r;exact call_int_int ⟨.int i,H,I,⟨_,rfl⟩,q⟩
 ·obtain⟨u,rfl,r1⟩:=og r
  cases r1
  exact call_int_bool ⟨.int (if k then 1 else 0),H,I.tok _,⟨_,rfl⟩,q⟩
end
structure Iw(h:Heap)(x dx C:Addr)(mA:Str→Option Value):Prop where
 obj:h.get? x=some (W.instObj C dx)
 ns:h.Ns1 dx mA
 ne:dx≠x
theorem zt{h:Heap}{dx:Addr}{mA:Str→Option Value}(n:h.Ns1 dx mA):∃od,h.get? dx=some od∧∀name,W.lookIn name od=some (mA name):=by
 obtain⟨o,es,ep,ho,hd,hk,_,hm⟩:=n;refine⟨o,ho,fun name=>?_⟩;have e:=hm name;unfold nsFind findBy at e;rw[← Array.find?_toList]at e;unfold W.lookIn;rw[hd];dsimp only
 split
 ·rename_i y q;rw[q]at e;exact congrArg some e
 ·rename_i q;rw[q]at e
  have a:es.toList.any (·.refKey)=false:=by rw[List.any_eq_false];intro y hy;obtain⟨z,t,W6⟩:=hk y (Array.mem_toList_iff.mp hy);simp[DictEntry.refKey,W6]
  have a':¬ es.toList.any (·.refKey)=true:=by rw[a];exact Bool.false_ne_true
  rw[if_neg a'];exact congrArg some e
theorem Iw.look{h:Heap}{x dx C:Addr}{mA:Str→Option Value}(I:Iw h x dx C mA):∃od,W.InstAt h x (W.instObj C dx) C (some od)∧∀name,W.lookIn name od=some (mA name):=
 let⟨od,ho,hl⟩:=zt I.ns
 ⟨od,⟨I.obj,rfl,rfl,ho⟩,hl⟩
theorem pL.some_of{v:V}{o:Option Value}(r:pL (some v) o):∃u,o=some u∧bn v u:=by
 cases o with
 |none=>exact(show False from r).elim
 |some u=>exact⟨u,rfl,r⟩
section
variable{P:Program}{w:World}{H H':Hp}{h h':Heap}{a C dx:Addr}{fs fs':List (Str×V)}
theorem EG(hok:Pq P w H h)(e:H a=some (.ins C dx fs)):∃mA,Iw h a dx C mA∧(∀f,pL (fs.lookup f) (mA f))∧PySem.Within mA (fs.map (·.1))∧fs.length≤1000∧H dx=some (.own a):=by
 obtain⟨d,z,ne,ob,mA,n,r,q⟩:=(show bE P w H h a (.ins C dx fs)from hok a _ e)
 exact⟨mA,⟨ob,n,ne⟩,r,q,z,d⟩
end
structure Cls(K:W.Frag)(C:Addr):Prop where
 pg:W.plainGet K C Str.empty=true
 hd:W.hasDictIn K C=true
 po:W.plainOver K C=true
 sa:W.findIn K (.ref C) "__setattr__"=some (some (.builtin "object.__setattr__"))
theorem Cls.get{K:W.Frag}{C:Addr}(c:Cls K C)(f:Str):W.plainGet K C f=true:=c.pg
structure bZ(k:Nat)(A:Around):Prop where
 hd:A.handled=none
 dp:A.depth+3 * k+5<recursionLimit
 un:A.units+16 * k+200<cLine
 gd:A.guards=some []
theorem bZ.mono{j k:Nat}{A:Around}(r:bZ k A)(h:j≤k):bZ j A:=⟨r.hd,by have:=r.dp;omega,by have:=r.un;omega,r.gd⟩
theorem bZ.deeper{k:Nat}{A:Around}(r:bZ (k+1) A)(env:Env):bZ k (A.deeper env):=
 ⟨r.hd,by have:=r.dp;show A.depth+1+3 * k+5<_;omega,by have:=r.un;show A.units+3+16 * k+200<_;omega,r.gd⟩
theorem wg{A:Around}{C:Addr}{us:List Value}{kw:List (Str×Value)}:(A.under (.builtin "type.__call__" ⟨.ref C::us,kw⟩)).depth=A.depth+1:=by first|rfl|simp[Around.under,Code.weight,Code.isCreation,Code.isGuard,Code.isCaller,Code.frames,Code.isFrame,guardIds]
theorem wf{A:Around}{C:Addr}{us:List Value}{kw:List (Str×Value)}:(A.under (.builtin "type.__call__" ⟨.ref C::us,kw⟩)).units=A.units+1:=by first|rfl|simp[Around.under,Code.cUnits,Code.frames,Code.isFrame]
theorem bZ.make{k:Nat}{A:Around}(r:bZ (k+1) A)(C:Addr)(us:List Value)(kw:List (Str×Value)):bZ k (A.under (.builtin "type.__call__" ⟨.ref C::us,kw⟩)):=
 ⟨r.hd,by have:=r.dp;rw[wg];omega,by have:=r.un;rw[wf];omega,by first|exact r.gd|(simp[Around.under,Code.guards,Code.isGuard,guardIds,pushGuards];exact r.gd)⟩
theorem bZ.depth{k:Nat}{A:Around}(r:bZ k A):A.depth<recursionLimit:=by have:=r.dp;omega
theorem bZ.units{k:Nat}{A:Around}(r:bZ k A):A.units+64<cLine:=by have:=r.un;omega
noncomputable def Lb:TA:=fun _ H Q=>Q [] H
noncomputable def IO(ta:TE)(tr:TA):TA:=fun σ H Q=>ta σ H fun x H1=>tr σ H1 fun xs H2=>Q (x::xs) H2
section
variable{X:Cx}{e:Expr}{es:List Expr}{te:TE}{t:TA}{pos:Pos}
theorem vS:PA X [] Lb:=fun _ _ _ _ H Q I h=>Calls.spliced_nil ⟨[],H,I,.nil,h⟩
theorem rY(ha:PE X e te)(hr:PA X es t)(hs:sE0 X e es:=by rfl):PA X (e::es) (IO te t):=by intro pos pins s σ H Q I h;rw[hs];show wpAny _ _ (spliced ((false,eval e X.env)::backTo pos (starEach es X.env))) _ _ s;refine Calls.spliced_cons (I_ (ha pins s σ H _ I h) ?_);rintro u s1 ⟨x,H1,I1,r1,q1⟩;exact I_ (hr pos pins s1 σ H1 _ I1 q1) (by rintro us s2 ⟨xs,H2,I2,r2,q2⟩;exact ⟨x::xs,H2,I2,.cons r1 r2,q2⟩)
def KS(t:TA):TE:=fun σ H Q=>t σ H fun xs H1=>xs.length≤sizeLine∧∀p,H1 p=none→Q (.ref p) (upd H1 p (.tup xs))
def Lc(t:TA):TE:=fun σ H Q=>t σ H fun xs H1=>xs.length≤sizeLine∧∀p,H1 p=none→Q (.ref p) (upd H1 p (.lst xs))
theorem Hq{x1}(h:PA X es t):PE X (.Tuple es x1 pos) (KS t):=by intro pins s σ H Q I hq;refine wpAny_Tuple_spliced (I_ (h pos pins s σ H _ I hq) fun us s1 ⟨xs,H1,I1,r,z,q⟩=>⟨by rw[← r.length];exact z,?_⟩);have hf:H1 s1.heap.objs.size=none:=I1.hok.fresh (ab2 _);refine⟨.ref s1.heap.objs.size,upd H1 s1.heap.objs.size (.tup xs),I1.laid (t':=s1.toks) (fun b u e=>Heap.get?_push_of_some _ e) (ab2 _) ?_,rfl,q _ hf⟩;exact⟨z,us,r,⟨_,Heap.get?_push_size _ rfl,rfl,_,rfl⟩⟩
theorem Br(h:PA X es t):PE X (.List es pos) (Lc t):=by intro pins s σ H Q I hq;refine wpAny_List_spliced (I_ (h pos pins s σ H _ I hq) fun us s1 ⟨xs,H1,I1,r,z,q⟩=>⟨by rw[← r.length];exact z,?_⟩);have hf:H1 s1.heap.objs.size=none:=I1.hok.fresh (ab2 _);refine⟨.ref s1.heap.objs.size,upd H1 s1.heap.objs.size (.lst xs),I1.laid (t':=s1.toks) (fun b u e=>Heap.get?_push_of_some _ e) (ab2 _) ?_,rfl,q _ hf⟩;exact⟨z,us,0,r,Heap.get?_push_size _ rfl⟩
end
abbrev Sp:=List V→Hp→VK→XK→Prop
abbrev UW:=List Env→Hp→Shared→XK→Value→Shared→Prop
structure wR(P:Program)(w:World)(K:W.Frag)(mg:Str→Option Value)(base:Heap)(A:Around)(outer:List Env)(s:Shared)(H:Hp):Prop where
 frames:A.frames=some outer
 mod:Mod K mg base
 bs:∀b o,base.get? b=some o→s.heap.get? b=some o∧H b=none
 U7:base.objs.size≤s.heap.objs.size
 QH:s.heap.FunFrames base outer
 VG:∀b∈frs outer,H b=none
 hok:Pq P w H s.heap
 bare:AllBare s.gens
def CE(outer:List Env)(P:Program)(w:World)(H:Hp)(s:Shared)(Q:VK)(u:Value)(s':Shared):Prop:=
 ∃v H',s'.os=s.os∧AllBare s'.gens∧Un (frs outer) [] H H' s.heap s'.heap∧Pq P w H' s'.heap∧bn v u∧Q v H'
def CR(CX:UW)(outer:List Env)(P:Program)(w:World)(H:Hp)(s:Shared)(Q:VK)(E:XK)(r:Result)(s':Shared):Prop:=
 match r with
 |.ok (.ret u)=>CE outer P w H s Q u s'
 |.ok _=>False
 |.error e=>CX outer H s E e s'
structure cP(P:Program)(w:World)(K:W.Frag)(mg:Str→Option Value)(base:Heap)(CX:UW)(k:Nat)(f:Addr)(fd:FuncData)(ps:List Str)(sp:Sp):Prop where
 len:∀vs H Q E,sp vs H Q E→vs.length=ps.length
 run:∀(A:Around)(outer:List Env)(s:Shared)(H:Hp)(args:Args)(us:List Value)(vs:List V)(Q:VK)(E:XK),bZ k A→wR P w K mg base A outer s H→BindsTo s fd args (ps.zip us)→aW vs us→sp vs H Q E→
  codeAny (model P w) A (.call (.ref f) args) (CR CX outer P w H s Q E) s
theorem cP.imp{P:Program}{w:World}{K:W.Frag}{mg:Str→Option Value}{base:Heap}{CX:UW}{k:Nat}{f:Addr}{fd:FuncData}{ps:List Str}{sp sp':Sp}(F:cP P w K mg base CX k f fd ps sp)
  (h:∀vs H Q E,sp' vs H Q E→sp vs H Q E):cP P w K mg base CX k f fd ps sp':=
 ⟨fun vs H Q E q=>F.len vs H Q E (h _ _ _ _ q),fun A outer s H args us vs Q E hr he hb hv hs=>F.run A outer s H args us vs Q E hr he hb hv (h _ _ _ _ hs)⟩
theorem wR.make{P:Program}{w:World}{K:W.Frag}{mg:Str→Option Value}{base:Heap}{A:Around}{outer:List Env}{s:Shared}{H:Hp}(e:wR P w K mg base A outer s H)(C:Addr)(us:List Value)(kw:List (Str×Value)):
  wR P w K mg base (A.under (.builtin "type.__call__" ⟨.ref C::us,kw⟩)) outer s H:=⟨by first|exact e.frames|(simpa[Around.under,Code.envs,Code.isFrame,pushEnvs]using e.frames),e.mod,e.bs,e.U7,e.QH,e.VG,e.hok,e.bare⟩
section
variable{X:Cx}{pins:List (Addr×Obj)}{σ:St}{H:Hp}{s s':Shared}
theorem Inv.env0(I:Inv X pins σ H s):wR X.prog X.w X.K X.mg X.base X.A X.stack s H:=
 ⟨I.ok.frames,I.ok.mod,I.bs,Nat.le_trans I.ok.U7 I.sz,I.stack,I.Pa,I.hok,I.bare⟩
theorem Inv.after{Q:VK}{u:Value}(I:Inv X pins σ H s)(h:CE X.stack X.prog X.w H s Q u s'):EP X pins σ Q u s':=by obtain⟨v,H',os,bare,un,hok,r,q⟩:=h;obtain⟨hh,g,d,t,os'⟩:=s';obtain rfl:os'=s.os:=os;exact⟨v,H',I.call (h':=hh) (g':=g) (d':=d) (t':=t) (ch:=[]) un hok bare (fun b z=>absurd z (by simp)),r,q⟩
end
noncomputable def IP(sp:Sp)(Wt:List V)(E:XK)(t:TA):TE:=fun σ H Q=>t σ H fun vs H1=>sp (vs++Wt) H1 Q E
def eF(K:W.Frag)(fd:FuncData)(ps:List Str)(ds:List Value):Prop:=
 ∀(s:Shared)(us:List Value),K.In s.heap→(us++ds).length=ps.length→BindsTo s fd ⟨us,[]⟩ (ps.zip (us++ds))
theorem eF.all{K:W.Frag}{fd:FuncData}{ps:List Str}(h:∀us:List Value,us.length=ps.length→bindArgs fd ⟨us,[]⟩=pure (ps.zip us)):eF K fd ps []:=fun s us _ hl=>by rw[List.append_nil]at hl ⊢;exact .of_eq (h us hl)
def eQ(CX:UW)(X:Cx)(E:XK):Prop:=∀(pins:List (Addr×Obj))(σ:St)(H:Hp)(s:Shared)(e:Value)(s':Shared),Inv X pins σ H s→CX X.stack H s E e s'→X.xe e s'
section
variable{X:Cx}{CX:UW}{k:Nat}{f C:Addr}{fd:FuncData}{ps:List Str}{sp:Sp}{Wt:List V}{ds:List Value}{E:XK}{x m:Str}{p pos apos:Pos}{e o:Expr}{es:List Expr}{ta:TE}{t:TA}
theorem GJ{pins:List (Addr×Obj)}{σ:St}{H:Hp}{s:Shared}{Q:VK}{us:List Value}{vs:List V}(F:cP X.prog X.w X.K X.mg X.base CX k f fd ps sp)(hr:bZ k X.A)(hb:eF X.K fd ps ds)(hd:aW Wt ds)(hx:eQ CX X E)
  (I:Inv X pins σ H s) (r:aW vs us) (h:sp (vs++Wt) H Q E):wpAny (model X.prog X.w) X.A (call (.ref f) us) (EP X pins σ Q) X.xe s:=by
 have r2:aW (vs++Wt) (us++ds):=r.append hd;have hl:(us++ds).length=ps.length:=by rw[← r2.length];exact F.len _ _ _ _ h
 refine wpAny_call (codeAny_mono (F.run X.A X.stack s H ⟨us,[]⟩ (us++ds) (vs++Wt) Q E hr I.env0 (hb s us I.RJ hl) r2 h) fun r s' hq=>?_)
 cases r with
 |error e=>exact hx pins σ H s e s' I hq
 |ok fl=>
  cases fl with
  |ret u=>exact I.after hq
  |next=>exact False.elim hq
  |brk=>exact False.elim hq
  |cont=>exact False.elim hq
theorem xH(F:cP X.prog X.w X.K X.mg X.base CX k f fd ps sp)(hr:bZ k X.A)(hg:Gl X x)(hm:X.mg x=some (.ref f))(hk:W.keepIn X.K (.ref f)=true)(hb:eF X.K fd ps ds)(hd:aW Wt ds)(hx:eQ CX X E)
  (ha:PA X (e::es) t) (Ql:nD0 x:=by decide)(he:sE0 X e es:=by rfl) (Oc:sP0 X es pos:=by rfl):
  PE X (.Call (.Name x p) (e::es) [] pos) (IP sp Wt E t):=by
 intro pins s σ H Q I h;refine wpAny_Call_Name_kw (nM I hg hm ?_ Ql);refine W.callWith_K (h₀:=X.base) I.ok.mod.Px hk (I_ (ha pos pins s σ H _ I h) fun us s1 ⟨vs,H1,I1,r,q⟩=>⟨I1.RJ,?_⟩) he Oc;exact GJ F hr hb hd hx I1 r q
end
def PK(X:Cx)(kws:List Keyword)(t:TA):Prop:=
 ∀(pos:Pos)(pins:List (Addr×Obj))(s:Shared)(σ:St)(H:Hp)(Q:List V→Hp→Prop),Inv X pins σ H s→t σ H Q→wpAny (model X.prog X.w) X.A (evalAll ((backToKw pos (keywordEach kws X.env)).map (·.2))) (AP X pins σ Q) X.xe s
structure gM(N P:List Str)(sc:Scope):Prop where
 kind:sc.kind=.function
 co:sc.isCoroutine=false
 gen:sc.isGenerator=false
 nd:N.Nodup
 pre:N.take P.length=P
 par:∀x∈P,sc.names.lookup x=some .local∨sc.names.lookup x=some .cell
 WW:∀y∈sc.names,y.2≠.free
theorem qT{kindOf:Str→Option NameKind}{x:Str}:∀{binds:List (Str×Value)}{m:Str→Option Value},(∀v,(x,v)∉binds)→bindL kindOf binds m x=m x
 |[],_,_=>rfl
 |(n,v)::r,m,h=>by
  unfold bindL;rw[qT fun w hw=>h w (List.mem_cons_of_mem _ hw)]
  split
  ·have:x≠n:=by rintro rfl;exact h v List.mem_cons_self
   simp[this]
  ·rfl
theorem qV{kindOf:Str→Option NameKind}{x:Str}:∀{binds:List (Str×Value)}{m:Str→Option Value},(∀v,(x,v)∉binds)→bindC kindOf binds m x=m x
 |[],_,_=>rfl
 |(n,v)::r,m,h=>by
  unfold bindC;rw[qV fun w hw=>h w (List.mem_cons_of_mem _ hw)]
  split
  ·rfl
  ·have:x≠n:=by rintro rfl;exact h v List.mem_cons_self
   simp[this]
theorem qU{kindOf:Str→Option NameKind}{x:Str}{v:Value}:∀{P:List Str}{vs:List Value}{i:Nat}{m:Str→Option Value},P.Nodup→P[i]? =some x→vs[i]? =some v→kindOf x=some .local→
  bindL kindOf (P.zip vs) m x=some v
 |[],_,_,_,_,h,_,_=>by simp at h
 |_::_,[],_,_,_,_,h,_=>by simp at h
 |p::P,w::vs,0,m,nd,h1,h2,hk=>by simp at h1 h2;subst h1;subst h2;show bindL kindOf ((p,w)::P.zip vs) m p=_;unfold bindL;rw[qT fun v hv=>(List.nodup_cons.mp nd).1 (List.of_mem_zip hv).1,if_pos hk];simp
 |p::P,w::vs,i+1,m,nd,h1,h2,hk=>by show bindL kindOf ((p,w)::P.zip vs) m x=_;unfold bindL;exact qU (i:=i) (List.nodup_cons.mp nd).2 (by simpa using h1) (by simpa using h2) hk
theorem qW{kindOf:Str→Option NameKind}{x:Str}{v:Value}:∀{P:List Str}{vs:List Value}{i:Nat}{m:Str→Option Value},P.Nodup→P[i]? =some x→vs[i]? =some v→kindOf x≠some .local→
  bindC kindOf (P.zip vs) m x=some v
 |[],_,_,_,_,h,_,_=>by simp at h
 |_::_,[],_,_,_,_,h,_=>by simp at h
 |p::P,w::vs,0,m,nd,h1,h2,hk=>by simp at h1 h2;subst h1;subst h2;show bindC kindOf ((p,w)::P.zip vs) m p=_;unfold bindC;rw[qV fun v hv=>(List.nodup_cons.mp nd).1 (List.of_mem_zip hv).1,if_neg hk];simp
 |p::P,w::vs,i+1,m,nd,h1,h2,hk=>by show bindC kindOf ((p,w)::P.zip vs) m x=_;unfold bindC;exact qW (i:=i) (List.nodup_cons.mp nd).2 (by simpa using h1) (by simpa using h2) hk
noncomputable def gV(N:List Str)(vs:List V):St:=vs.map some++List.replicate (N.length - vs.length) none
noncomputable def jy(CX:UW)(P:Program)(w:World)(K:W.Frag)(mg:Str→Option Value)(base:Heap)(N:List Str)(C_:Str)(scope:Scope)(f:Addr)(cd:Value)(A:Around)(outer:List Env)(s:Shared)(H:Hp)(E:XK):Cx where
 prog:=P
 w:=w
 K:=K
 mg:=mg
 base:=base
 A:=A.deeper (envOfC C_ scope s.heap.objs.size f cd)
 N:=N
 s₀:=s
 H₀:=H
 env:=envOfC C_ scope s.heap.objs.size f cd
 outer:=outer
 stack:=envOfC C_ scope s.heap.objs.size f cd::outer
 ex:=[]
 calm:=true
 fn:=fun _=>true
 pn:=[]
 xe:=fun e s'=>wpAny (model P w) (A.deeper (envOfC C_ scope s.heap.objs.size f cd)) (leaving (envOfC C_ scope s.heap.objs.size f cd) e) (fun _ Ru=>CX outer H s E e Ru) (fun e' Ru=>CX outer H s E e' Ru) s'
theorem uX{sc:Scope}{n:Nat}{x:Str}(h:sc.names.lookup x=some .cell):∃c,(cellsFrom n sc.names []).lookup x=some c:=by have q:=W.cellsFrom_some sc.names n [] (.inl h);exact Option.isSome_iff_exists.mp q
theorem zC{CX:UW}{P:Program}{w:World}{K:W.Frag}{mg:Str→Option Value}{base:Heap}{N ps:List Str}{C_:Str}{scope:Scope}{f:Addr}{cd:Value}{A:Around}{outer:List Env}{s s1:Shared}{H:Hp}{E:XK}{us:List Value}{vs:List V}
  (S:gM N ps scope) (hd:A.handled=none) (e0:wR P w K mg base A outer s H) (hl:vs.length=ps.length) (r:aW vs us)
  (x:InCallC s s.heap.objs.size (bindL (envOfC C_ scope s.heap.objs.size f cd).kindOf (ps.zip us) fun _=>none) (cellsFrom (s.heap.objs.size+1) scope.names []) (bindC (envOfC C_ scope s.heap.objs.size f cd).kindOf (ps.zip us) fun _=>none) s1):
  Inv (jy CX P w K mg base N C_ scope f cd A outer s H E) [] (gV N vs) H s1:=by
 have Oc:ps.length≤N.length:=by have:=congrArg List.length S.pre;rw[List.length_take]at this;omega
 obtain⟨h1,tk,rfl,hk⟩:=x.done;have X7:∀b:Addr,b∉(jy CX P w K mg base N C_ scope f cd A outer s H E).ex:=fun b z=>absurd (show b∈([]:List Addr)from z) (by simp)
 refine⟨⟨e0.mod,S.kind,rfl,rfl,ab2 _,fun y z c h1 h2=>?_,fun y hy=>?_,fun y c _ h=>?_,fun _=>hd,Around.frames_deeper e0.frames,.inr ⟨rfl,rfl⟩,fun b z=>absurd z (X7 b),e0.bs,e0.U7,fun b _ _=>X7 b,fun b z=>absurd z (X7 b),e0.QH,e0.VG⟩,
  rfl,e0.bare,Un.kept hk,⟨_,x.toInCall.ns,fun i y v h1 h2 h3=>?_⟩,fun y c h=>⟨_,x.cell y c h⟩,e0.hok.fresh (ab2 _),fun y c h=>?_,fun p hp=>absurd (show p∈([]:List (Addr×Obj))from hp) (by simp),e0.hok.kept hk,?_⟩
 ·exact name_of_addr x.apart (PySem.mem_of_lookup h1) (PySem.mem_of_lookup h2)
 ·have hy:scope.names.lookup y=some .cell∨scope.names.lookup y=some .free:=hy;rcases hy with hy|hy
  ·exact uX hy
  ·exact absurd rfl (S.WW _ (PySem.mem_of_lookup hy))
 ·exact Nat.le_of_lt (x.above y c (PySem.mem_of_lookup h))
 ·have hi:i<vs.length:=by
   unfold gV at h2
   by_cases hi:i<vs.length
   ·exact hi
   ·rw[List.getElem?_append_right (by simpa using hi)]at h2;rw[List.getElem?_replicate]at h2
    split at h2<;>cases h2
  have ha:vs[i]? =some v:=by
   unfold gV at h2;rw[List.getElem?_append_left (by simpa using hi),List.getElem?_map]at h2
   cases e:vs[i]? with
   |none=>rw[e]at h2;cases h2
   |some a=>rw[e]at h2;cases h2;rfl
  obtain⟨u,hu,rv⟩:=r.get ha
  have hp:ps[i]? =some y:=by rw[← S.pre,List.getElem?_take_of_lt (by omega)];exact h1
  have ndP:ps.Nodup:=by rw[← S.pre];exact S.nd.sublist (List.take_sublist _ _)
  refine⟨u,rv,?_⟩;rcases S.par y (List.mem_of_getElem? hp)with k|k
  ·exact .inl ⟨k,qU ndP hp hu k⟩
  ·obtain⟨c,e⟩:=uX (n:=s.heap.objs.size+1) k;refine .inr ⟨.inl k,c,e,?_⟩;have q:=x.cell y c e;rw[qW ndP hp hu (by show scope.names.lookup y≠_;rw[k];decide)]at q;exact q
 ·exact e0.hok.fresh (Nat.le_of_lt (x.above y c (PySem.mem_of_lookup h)))
 ·unfold gV;show _=N.length;rw[List.length_append,List.length_map,List.length_replicate];omega
theorem Ct{CX:UW}{P:Program}{w:World}{K:W.Frag}{mg:Str→Option Value}{base:Heap}{k:Nat}{f:Addr}{name C_:Str}{params:Arguments}{body:List Stmt}{scope:Scope}{dV kV doc pm K9 ct oc:Value}{an od:Option Addr}
  {Rz:Array (Option Value)} {N ps:List Str} {sp:Sp} (lk:K.lookup f=some ⟨oc,od,.func (W.fnOf name C_ params body scope dV kV doc pm an K9 ct),Rz⟩) (RK:W.codeIn K K9 C_=true) (S:gM N ps scope)
  (len:∀vs H Q E,sp vs H Q E→vs.length=ps.length)
  (Vj:∀(A:Around)(outer:List Env)(s:Shared)(H:Hp)(vs:List V)(Q:VK)(E:XK),bZ k (A.deeper (envOfC C_ scope s.heap.objs.size f K9))→sp vs H Q E→
   ∃t,Sw (jy CX P w K mg base N C_ scope f K9 A outer s H E) body t∧t { nx:=fun _ H'=>Q .non H',rt:=Q } (gV N vs) H):
  cP P w K mg base CX (k+1) f (W.fnOf name C_ params body scope dV kV doc pm an K9 ct) ps sp:=by
 refine⟨len,fun A outer s H args us vs Q E hr e0 hb r Wo=>?_⟩;have hl:=len _ _ _ _ Wo;have KX:K.In s.heap:=e0.mod.Px.keeps fun b o e=>(e0.bs b o e).1;have lim:s.heap.NoLimit:=e0.mod.nolimit.keeps fun b o e=>(e0.bs b o e).1
 have Ym:∀y∈ps.zip us,scope.names.lookup y.1=some .local∨(scope.names.lookup y.1=some .cell∧((cellsFrom (s.heap.objs.size+1) scope.names []).lookup y.1).isSome=true):=fun⟨n,v⟩ hy=>by
  rcases S.par n (List.of_mem_zip hy).1 with q|q
  ·exact .inl q
  ·exact .inr ⟨q,W.cellsFrom_some _ _ _ (.inl q)⟩
 refine codeAny_call_function hr.depth (KX _ _ lk) rfl S.co S.gen rfl (W.codeRec_of KX RK) (hb _ _ _ _ ?_);refine wpAny_newFunctionEnv_cells S.kind Ym fun env he s1 x=>?_;subst he;refine⟨lim.keeps x.toInCall.keep,codeAny_func ?_⟩;obtain⟨t,ht,hq⟩:=Vj A outer s H vs Q E (hr.deeper _) Wo;have I:Inv (jy CX P w K mg base N C_ scope f K9 A outer s H E) [] (gV N vs) H s1:=zC S hr.hd e0 hl r x;refine wpAny_mono (ht [] s1 (gV N vs) H _ I hq) (fun fl s' hs=>?_) fun e s' hs=>hs
 have fin:∀{σ':St}{H':Hp}{v:V}{u:Value},Inv (jy CX P w K mg base N C_ scope f K9 A outer s H E) [] σ' H' s'→bn v u→Q v H'→CE outer P w H s Q u s':=
  fun{σ' H' v u} J rv q=>⟨v,H',J.os,J.bare,J.base,J.hok,rv,q⟩
 cases fl with
 |ret u=>obtain⟨v,σ',H',J,rv,q⟩:=hs;exact fin J rv q
 |next=>obtain⟨σ',H',J,q⟩:=hs;exact fin (v:=V.non) (u:=Value.none) J rfl q
 |brk=>obtain⟨_,_,_,q⟩:=hs;exact False.elim q
 |cont=>obtain⟨_,_,_,q⟩:=hs;exact False.elim q
section
variable{X:Cx}{x:Str}{p pos:Pos}{e:Expr}{es:List Expr}{t:TA}{id T:String}{r:List V→Hp→VK→Prop}
noncomputable def ZM(r:List V→Hp→VK→Prop)(t:TA):TE:=fun σ H Q=>t σ H fun vs H1=>r vs H1 Q
theorem Bu(hc:dh X (.builtin id) r)(hg:Gl X x)(hm:X.mg x=none)(hv:bootBuiltins x=some (.builtin id))(ha:PA X (e::es) t)(hn:x≠"__name__":=by decide)(Ql:nD0 x:=by decide)
  (he:sE0 X e es:=by rfl) (Oc:sP0 X es pos:=by rfl):PE X (.Call (.Name x p) (e::es) [] pos) (ZM r t):=by
 intro pins s σ H Q I h;refine wpAny_Call_Name_kw (gQ I hg hm hv ?_ hn Ql);exact PyProof.Rows.callWith_builtin1 (I_ (ha pos pins s σ H _ I h) (by rintro us s1 ⟨vs,H1,I1,r1,q1⟩;exact hc pins s1 σ H1 vs us Q I1 r1 q1)) he Oc
theorem zh(hc:dh X (.type T) r)(hg:Gl X x)(hm:X.mg x=none)(hv:bootBuiltins x=some (.type T))(ha:PA X (e::es) t)(hn:x≠"__name__":=by decide)(Ql:nD0 x:=by decide)
  (he:sE0 X e es:=by rfl) (Oc:sP0 X es pos:=by rfl):PE X (.Call (.Name x p) (e::es) [] pos) (ZM r t):=by
 intro pins s σ H Q I h;refine wpAny_Call_Name_kw (gQ I hg hm hv ?_ hn Ql);exact PyProof.Rows.callWith_type1 (I_ (ha pos pins s σ H _ I h) (by rintro us s1 ⟨vs,H1,I1,r1,q1⟩;exact hc pins s1 σ H1 vs us Q I1 r1 q1)) he Oc
end
end L2
namespace HT
open PySem PyProof.Rows
section
variable{prog:Program}{w:World}{A:Around}{E:Value→Shared→Prop}{s:Shared}
theorem Wf{t b:Addr}{vs ws:List Value}{Q:Value→Shared→Prop}(ht:IsTup s.heap t vs.toArray)(hb:IsTup s.heap b ws.toArray)(hv:vs≠ [])
  (h1:ws= []→Q (.ref t) s) (h2:ws≠ []→Q (.ref s.heap.objs.size) { s with heap:=s.heap.push { cls:=.type "tuple",data:=.seq (vs++ws).toArray } })
  (hsz:vs.length+ws.length≤sizeLine):wpAny (model prog w) A (binaryOp .Add (.ref t) (.ref b)) Q E s:=by
 obtain⟨⟨cls,dd,data,sl⟩,ho,hc,n,hd⟩:=id ht;obtain⟨⟨aeh,dd2,data2,Y0⟩,Zi,hc2,n2,hd2⟩:=id hb;simp only at hc hd hc2 hd2;subst hc hd hc2 hd2;have e:vs.toArray++ws.toArray=(vs++ws).toArray:=by simp
 by_cases hw:ws= []
 ·exact concat_meets ⟨_,ho,rfl⟩ ⟨_,Zi,rfl⟩ noFill_tuple_add seq_tuple_add PySem.F.slot_tuple_add PySem.F.entry_tuple_add (PySem.F.args_tuple_add_2 _ _)
   (tuple_addW1 t b vs.toArray ws.toArray n n2 dd dd2 sl Y0 (by simpa using hv) (by simp[hw])) ⟨ho,Zi,h1 hw⟩
 ·refine concat_meets ⟨_,ho,rfl⟩ ⟨_,Zi,rfl⟩ noFill_tuple_add seq_tuple_add PySem.F.slot_tuple_add PySem.F.entry_tuple_add (PySem.F.args_tuple_add_2 _ _)
   (tuple_addW2 t b vs.toArray ws.toArray n n2 dd dd2 sl Y0 (by simpa using hv) (by simpa using hw) (by rw[List.size_toArray,List.size_toArray];exact hsz)) ⟨ho,Zi,?_⟩
  rw[e];exact h2 hw
noncomputable def J9(n d:Nat):Option Int→Nat
 |none=>d
 |some v=>if v<0 then(v+(n:Int)).toNat else min v.toNat n
theorem R6(n d:Nat):J9 n d none=d:=rfl
theorem Rx(n d k:Nat):J9 n d (some (k:Int))=min k n:=by show(if(k:Int)<0 then((k:Int)+(n:Int)).toNat else min (k:Int).toNat n)=min k n;rw[if_neg (by omega),Int.toNat_natCast]
theorem T_(n d:Nat)(hd:d≤n)(o:Option Int):J9 n d o≤n:=by
 cases o with
 |none=>exact hd
 |some v=>
  show(if v<0 then(v+(n:Int)).toNat else min v.toNat n)≤n
  by_cases hv:v<0
  ·rw[if_pos hv];omega
  ·rw[if_neg hv];exact Nat.min_le_right _ _
theorem yp(v:Int)(n d:Nat):(if v<0 then max (v+(n:Int)) 0 else min v (n:Int))=((J9 n d (some v):Nat):Int):=by
 show(if v<0 then max (v+(n:Int)) 0 else min v (n:Int))=(((if v<0 then(v+(n:Int)).toNat else min v.toNat n):Nat):Int)
 by_cases hv:v<0
 ·simp only[if_pos hv];omega
 ·simp only[if_neg hv];omega
theorem wO(lo hi:Option Int)(n:Nat):Builtin.Slice.sliceAdjust lo hi 1 (n:Int)=(((J9 n 0 lo:Nat):Int),((J9 n n hi:Nat):Int)):=by
 have h1:¬ ((1:Int)<0):=by omega
 unfold Builtin.Slice.sliceAdjust;simp only[h1,if_false];refine Prod.ext ?_ ?_
 ·cases lo with
  |none=>rfl
  |some v=>exact yp v n 0
 ·cases hi with
  |none=>rfl
  |some v=>exact yp v n n
theorem vP(i j:Nat):Builtin.Slice.slicePlaces (i:Int) (j:Int) 1=j - i:=by
 unfold Builtin.Slice.slicePlaces;have h1:(1:Int)>0:=by omega
 simp only[h1,if_true,Int.ediv_one]
 split<;>omega
theorem ou{v:Value}{o:Option Int}{Q:Option Int→Shared→Prop}(p:IsPart v o)(h:Q o s):wpAny (model prog w) A (Builtin.Slice.slicePartIndex v) Q E s:=by
 cases p with
 |none=>exact slicePart_none h
 |int i t=>exact slicePart_int h
theorem gX{sl:Addr}{vl vu:Value}{lo hi:Option Int}{n:Nat}{Q:Int×Int×Nat→Shared→Prop}(hs:s.heap.IsSliceOf sl vl vu .none)(pl:IsPart vl lo)(pu:IsPart vu hi)
  (h:Q (((J9 n 0 lo:Nat):Int),1,J9 n n hi - J9 n 0 lo) s):wpAny (model prog w) A (Builtin.Slice.sliceApplied (.ref sl) (pure (n:Int))) Q E s:=by
 obtain⟨os,V9,Zk,Yo⟩:=id hs;unfold Builtin.Slice.sliceApplied Builtin.Slice.sliceFields;refine wpAny_bind (wpAny_bind (wpAny_field V9 Yo (x:=vl) rfl (wpAny_bind (wpAny_field V9 Yo (x:=vu) rfl (wpAny_bind (wpAny_field V9 Yo (x:=.none) rfl (wpAny_pure ?_)))))));refine wpAny_bind (slicePart_none ?_);show wpAny _ _ (if((1:Int)==0)=true then _ else _) _ _ s;rw[if_neg (by decide)];refine wpAny_bind (ou pl (wpAny_bind (ou pu (wpAny_bind (wpAny_pure ?_)))));show wpAny _ _ (match Builtin.Slice.sliceAdjust lo hi 1 (n:Int)with|(lo,hi)=>pure (lo,(1:Int),Builtin.Slice.slicePlaces lo hi 1)) _ _ s;rw[wO lo hi n];show wpAny _ _ (pure (((J9 n 0 lo:Nat):Int),(1:Int),Builtin.Slice.slicePlaces ((J9 n 0 lo:Nat):Int) ((J9 n n hi:Nat):Int) 1)) _ _ s;rw[vP];exact wpAny_pure h
theorem Bl(xs:Array Value)(i k:Nat):((List.range k).filterMap fun(m:Nat)=>xs[((i:Int)+(m:Int) * 1).toNat]?).toArray=((xs.toList.drop i).take k).toArray:=by
 have e:(fun(m:Nat)=>xs[((i:Int)+(m:Int) * 1).toNat]?)=fun m=>xs[i+m]? :=by
  funext m
  have:((i:Int)+(m:Int) * 1).toNat=i+m:=by omega
  rw[this]
 rw[e];have:=pick_run xs i k;rw[List.filterMap_map]at this;have e2:((fun x=>xs[x]?)∘fun x=>i+x)=fun m=>xs[i+m]? :=rfl;rw[e2]at this;rw[this]
theorem Q7{t sl:Addr}{items:Array Value}{vl vu:Value}{lo hi:Option Int}{Q:Value→Shared→Prop}(ht:IsTup s.heap t items)(hs:s.heap.IsSliceOf sl vl vu .none)(pl:IsPart vl lo)(pu:IsPart vu hi)
  (hw:¬ (J9 items.size 0 lo=0∧J9 items.size items.size hi=items.size))
  (h:Q (.ref s.heap.objs.size) { s with heap:=s.heap.push { cls:=.type "tuple",data:=.seq ((items.toList.drop (J9 items.size 0 lo)).take (J9 items.size items.size hi - J9 items.size 0 lo)).toArray } })
  (hsz:items.size≤sizeLine):wpAny (model prog w) A (getItem (.ref t) (.ref sl)) Q E s:=by
 have Ut:sizeOk (.seq ((items.toList.drop (J9 items.size 0 lo)).take (J9 items.size items.size hi - J9 items.size 0 lo)).toArray):=by show((items.toList.drop (J9 items.size 0 lo)).take (J9 items.size items.size hi - J9 items.size 0 lo)).toArray.size≤sizeLine;rw[List.size_toArray,List.length_take,List.length_drop,Array.length_toList];omega
 have hj:J9 items.size items.size hi≤items.size:=T_ _ _ (Nat.le_refl _) hi;obtain⟨os,V9,Zk,Yo⟩:=id hs;have hTs:s.TypeIs (.ref sl) "slice":=⟨os,V9,Zk⟩
 unfold getItem
 try with_reducible refine wpAny_holding ?_
 first|refine wpAny_bind (wpAny_pure ?_)|skip
 refine wpAny_bind (wpAny_sequenceKey ht.typeIs (by decide) ?_)
 refine wpAny_bind (wpAny_callSpecial?_slot (name:=Str.ofString "__getitem__") ht.typeIs PyProof.Rows.slot_tuple_getitem
  (wpAny_call_entry PyProof.Rows.slot_tuple_getitem ht.typeIs entry_tuple_getitem ?_ (args_tuple_getitem _ _)))
 show wpAny _ _ (Builtin.Tuple.tupleItemsOf (.ref t) >>= _) _ _ s;refine wpAny_bind (tupleItemsOf_ ht ?_);refine wpAny_bind (wpAny_typeOf hTs ?_);rw[if_pos (by decide)];refine wpAny_bind (gX hs pl pu ?_)
 have hno:¬ ((((J9 items.size 0 lo:Nat):Int)==0&&(1:Int)==1&&(J9 items.size items.size hi - J9 items.size 0 lo)==items.size)=true):=by intro q;rw[Bool.and_eq_true,Bool.and_eq_true]at q;have q1:((J9 items.size 0 lo:Nat):Int)=0:=eq_of_beq q.1.1;have q2:J9 items.size items.size hi - J9 items.size 0 lo=items.size:=eq_of_beq q.2;exact hw ⟨by omega,by omega⟩
 show wpAny _ _ (if(((J9 items.size 0 lo:Nat):Int)==0&&(1:Int)==1&&(J9 items.size items.size hi - J9 items.size 0 lo)==items.size)=true then _ else _) _ _ s;rw[if_neg hno,Bl]
 first
  |exact wpAny_bind (m:=Builtin.Tuple.tupleExact _) (wpAny_newObj_type (wpAny_pure ⟨_,rfl,wpAny_pure h⟩) Ut)
  |exact wpAny_bind (m:=Builtin.Tuple.tupleExact _) (wpAny_newObj_type (wpAny_bind (wpAny_pure (wpAny_pure ⟨_,rfl,wpAny_pure h⟩))) Ut)
  |exact wpAny_bind (wpAny_bind (m:=Builtin.Tuple.tupleExact _) (wpAny_newObj_type (wpAny_pure (wpAny_pure ⟨_,rfl,wpAny_pure h⟩)) Ut))
  |exact wpAny_bind (wpAny_bind (m:=Builtin.Tuple.tupleExact _) (wpAny_newObj_type (wpAny_pure ⟨_,rfl,wpAny_pure h⟩) Ut))
end
end HT
namespace L2
open PySem PySem.Spec PyProof.Rows
abbrev TO:=St→Hp→(Option Int→Hp→Prop)→Prop
def PO(X:Cx)(e:Option Expr)(t:TO):Prop:=
 ∀(pins:List (Addr×Obj))(s:Shared)(σ:St)(H:Hp)(Q:Option Int→Hp→Prop),Inv X pins σ H s→t σ H Q→
  wpAny (model X.prog X.w) X.A (evalPart e X.env) (fun u s'=>∃o H',Inv X pins σ H' s'∧IsPart u o∧Q o H') X.xe s
noncomputable def Dv:TO:=fun _ H Q=>Q none H
noncomputable def IJ(t:TE):TO:=fun σ H Q=>t σ H fun x H1=>∃i,x=.int i∧Q (some i) H1
section
variable{X:Cx}{e:Expr}{te:TE}{lo hi:Option Expr}{tl th:TO}{pos p2:Pos}
theorem DZ:PO X none Dv:=by intro pins s σ H Q I h;rw[evalPart_none];exact wpAny_pure ⟨none,H,I,.none,h⟩
theorem DY(h:PE X e te):PO X (some e) (IJ te):=by intro pins s σ H Q I hw;rw[evalPart_some];refine I_ (h pins s σ H _ I hw) ?_;rintro u s1 ⟨x,H1,I1,r1,q1⟩;obtain⟨i,rfl,q⟩:=q1;obtain⟨t,rfl⟩:=r1;exact⟨some i,H1,I1,.int i t,q⟩
def U8(X:Cx)(r:V→Option Int→Option Int→Hp→VK→Prop):Prop:=
 ∀(pins:List (Addr×Obj))(s:Shared)(σ:St)(H:Hp)(x:V)(v vl vu:Value)(lo hi:Option Int)(sl:Addr)(Q:VK),Inv X pins σ H s→bn x v→s.heap.IsSliceOf sl vl vu .none→IsPart vl lo→IsPart vu hi→r x lo hi H Q→
  ∃T id,typeLookup (.type T) "__getitem__"=pure (some (.builtin id))∧s.TypeIs v T∧wpAny (model X.prog X.w) X.A (getItem v (.ref sl)) (EP X pins σ Q) X.xe s
theorem U8.or{r r':V→Option Int→Option Int→Hp→VK→Prop}(h:U8 X r)(h':U8 X r'):U8 X (fun x lo hi H Q=>r x lo hi H Q∨r' x lo hi H Q):=by
 intro pins s σ H x v vl vu lo hi sl Q I rx hs pl pu q;rcases q with q|q
 ·exact h pins s σ H x v vl vu lo hi sl Q I rx hs pl pu q
 ·exact h' pins s σ H x v vl vu lo hi sl Q I rx hs pl pu q
noncomputable def tSl(r:V→Option Int→Option Int→Hp→VK→Prop)(te:TE)(tl th:TO):TE:=fun σ H Q=>te σ H fun x H1=>tl σ H1 fun l H2=>th σ H2 fun u H3=>r x l u H3 Q
theorem Bq{r:V→Option Int→Option Int→Hp→VK→Prop}(hr:U8 X r)(he:PE X e te)(hl:PO X lo tl)(hu:PO X hi th):PE X (.Subscript e (.Slice lo hi none p2) pos) (tSl r te tl th):=by intro pins s σ H Q I h;refine Subscript_ (I_ (he pins s σ H _ I h) ?_);rintro v s1 ⟨x,H1,I1,r1,q1⟩;refine wpAny_Slice (I_ (hl pins s1 σ H1 _ I1 q1) fun vl s2 ⟨l,H2,I2,pl,q2⟩=>I_ (hu pins s2 σ H2 _ I2 q2) ?_);rintro vu s3 ⟨u,H3,I3,pu,q3⟩;rw[evalPart_none];refine wpAny_pure ?_;have I4:Inv X pins σ H3 { s3 with heap:=s3.heap.push { cls:=.type "slice",data:=.fields #[vl,vu,.none] } }:=I3.kept (t':=s3.toks) fun b ob q=>Heap.get?_push_of_some _ q;obtain⟨T,id,hT,ht,hg⟩:=hr pins { s3 with heap:=s3.heap.push { cls:=.type "slice",data:=.fields #[vl,vu,.none] } } σ H3 x v vl vu l u s3.heap.objs.size Q I4 r1 (Heap.IsSliceOf.new ..) pl pu q3;show wpAny (model X.prog X.w) X.A (subscriptTail e (.Slice lo hi none p2) v (.ref s3.heap.objs.size)) (EP X pins σ Q) X.xe { s3 with heap:=s3.heap.push { cls:=.type "slice",data:=.fields #[vl,vu,.none] } };exact tail_any (ops:=[.ref s3.heap.objs.size,v]) ht hT hg (by with_unfolding_all rfl)
def uU(xs:List V)(lo hi:Option Int):List V:=(xs.drop (HT.J9 xs.length 0 lo)).take (HT.J9 xs.length xs.length hi - HT.J9 xs.length 0 lo)
theorem mW(xs:List V)(lo hi:Option Int):(uU xs lo hi).length≤xs.length:=by unfold uU;rw[List.length_take,List.length_drop];omega
def Ja(K:W.Frag):V→Option Int→Option Int→Hp→VK→Prop:=fun x lo hi H Q=>∃a xs,x=.ref a∧O5 K H a xs∧
 ¬ (HT.J9 xs.length 0 lo=0∧HT.J9 xs.length xs.length hi=xs.length)∧∀p,H p=none→Q (.ref p) (upd H p (.tup (uU xs lo hi)))
theorem GA:U8 X (Ja X.K):=by
 intro pins s σ H x v vl vu lo hi sl Q I rx hs pl pu h;obtain⟨a,xs,rfl,hx,hw,q⟩:=h
 cases rx
 obtain⟨its,r,ht,hz⟩:=I.tuple hx;have L_:its.toArray.size=xs.length:=by rw[List.size_toArray];exact r.length.symm
 refine⟨"tuple",_,PyProof.Rows.slot_tuple_getitem.lookup,ht.typeIs,?_⟩;refine HT.Q7 ht hs pl pu (by rw[L_];exact hw) ?_ (by rw[L_];exact hz);rw[L_];refine⟨.ref s.heap.objs.size,_,I.laid (t':=s.toks) (o:=.tup (uU xs lo hi)) (fun b ob q=>Heap.get?_push_of_some _ q) (ab2 _) ?_,rfl,q _ (I.hok.fresh (ab2 _))⟩;exact⟨Nat.le_trans (mW xs lo hi) hz,_,(r.drop (HT.J9 xs.length 0 lo)).take (HT.J9 xs.length xs.length hi - HT.J9 xs.length 0 lo),IsTup.new _ _⟩
def Fy(K:W.Frag):R2:=fun x y H Q=>∃a b xs ys,x=.ref a∧y=.ref b∧O5 K H a xs∧O5 K H b ys∧xs≠ []∧xs.length+ys.length≤sizeLine∧
 (ys= []→Q (.ref a) H)∧(ys≠ []→∀p,H p=none→Q (.ref p) (upd H p (.tup (xs++ys))))
theorem aW.Q0{xs:List V}{us:List Value}(r:aW xs us):us= []↔xs= []:=by
 cases r with
 |nil=>simp
 |cons _ _=>simp
theorem Em:Ov X (binaryOp .Add) (Fy X.K):=by
 intro pins s σ H x y v u Q I rx ry h;obtain⟨a,b,xs,ys,rfl,rfl,ha,hb,hx,hz,q1,q2⟩:=h
 cases rx
 cases ry
 obtain⟨its,r1,p1,_⟩:=I.tuple ha;obtain⟨V6,r2,p2,_⟩:=I.tuple hb;refine HT.Wf p1 p2 (fun z=>hx (r1.Q0.mp z)) (fun z=>⟨.ref a,H,I,rfl,q1 (r2.Q0.mp z)⟩) (fun z=>?_) (by rw[← r1.length,← r2.length];exact hz);refine⟨.ref s.heap.objs.size,_,I.laid (t':=s.toks) (o:=.tup (xs++ys)) (fun b ob q=>Heap.get?_push_of_some _ q) (ab2 _) ?_,rfl,q2 (fun w=>z (r2.Q0.mpr w)) _ (I.hok.fresh (ab2 _))⟩;exact⟨by rw[List.length_append];exact hz,_,r1.append r2,IsTup.new _ _⟩
end
noncomputable def TY(n:Nat)(i:Int):Option Nat:=if 0≤i then(if i<n then some i.toNat else none)else if -(n:Int)≤i then some (i+n).toNat else none
def O8{α:Type}(xs:List α)(i:Int):Option α:=(TY xs.length i).bind fun j=>xs[j]?
theorem ya{n:Nat}{i:Int}{j:Nat}(h:TY n i=some j):seqIndex? i n=some j∧j<n∧ -(n:Int)≤i∧i<n:=by
 unfold TY at h
 by_cases h0:0≤i
 ·rw[if_pos h0]at h
  by_cases h1:i<n
  ·rw[if_pos h1]at h;have e:i.toNat=j:=Option.some.inj h;exact⟨by rw[seqIndex_of h0 h1,e],by omega,by omega,h1⟩
  ·rw[if_neg h1]at h;cases h
 ·rw[if_neg h0]at h
  by_cases h1: -(n:Int)≤i
  ·rw[if_pos h1]at h;have e:(i+n).toNat=j:=Option.some.inj h;exact⟨by rw[seqIndex_neg (by omega) h1,e],by omega,h1,by omega⟩
  ·rw[if_neg h1]at h;cases h
theorem tD{α:Type}{xs:List α}{i:Int}{v:α}(h:O8 xs i=some v):∃j,seqIndex? i xs.length=some j∧xs[j]? =some v∧j<xs.length∧ -(xs.length:Int)≤i∧i<xs.length:=by
 unfold O8 at h
 cases e:TY xs.length i with
 |none=>rw[e]at h;cases h
 |some j=>rw[e]at h;obtain⟨h1,h2,h3,h4⟩:=ya e;exact⟨j,h1,h,h2,h3,h4⟩
theorem Fi{α:Type}{xs:List α}{j:Nat}{v:α}(h:xs[j]? =some v):O8 xs (j:Int)=some v:=by
 have hj:j<xs.length:=(List.getElem?_eq_some_iff.mp h).1
 have e:TY xs.length (j:Int)=some j:=by unfold TY;rw[if_pos (by omega),if_pos (by omega)];simp
 unfold O8;rw[e];exact h
theorem vg{α:Type}(xs:List α)(v:α):O8 (xs++ [v]) (-1)=some v:=by
 have hl:(xs++ [v]).length=xs.length+1:=by simp
 have e:TY (xs++ [v]).length (-1)=some xs.length:=by
  unfold TY;rw[hl,if_neg (by decide),if_pos (by omega)]
  congr 1
  omega
 unfold O8;rw[e];show(xs++ [v])[xs.length]? =some v;simp
def Fl(b:Expr):Prop:=∀o i,subscripted b false o i=operate [o,i] (getItem o i)
def Vo(X:Cx)(r:R2):Prop:=
 ∀(value slice:Expr)(pins:List (Addr×Obj))(s:Shared)(σ:St)(H:Hp)(x y:V)(v u:Value)(Q:VK),Inv X pins σ H s→bn x v→bn y u→r x y H Q→
  subscripted slice false v u=operate [v,u] (getItem v u)→wpAny (model X.prog X.w) X.A (subscriptTail value slice v u) (EP X pins σ Q) X.xe s
def Zy(X:Cx)(id:String)(r:V→List V→Hp→VK→Prop):Prop:=
 ∀(pins:List (Addr×Obj))(s:Shared)(σ:St)(H:Hp)(x:V)(xs:List V)(v:Value)(us:List Value)(Q:VK),Inv X pins σ H s→bn x v→aW xs us→r x xs H Q→
  wpAny (model X.prog X.w) X.A (call (.builtin id) (v::us)) (EP X pins σ Q) X.xe s
section
variable{X:Cx}{a b:Expr}{ta tb:TE}{pos:Pos}
theorem Vo.or{r r':R2}(h:Vo X r)(h':Vo X r'):Vo X (fun x y H Q=>r x y H Q∨r' x y H Q):=by
 intro value slice pins s σ H x y v u Q I rx ry q hs;rcases q with q|q
 ·exact h value slice pins s σ H x y v u Q I rx ry q hs
 ·exact h' value slice pins s σ H x y v u Q I rx ry q hs
theorem Jp{r:R2}(hr:Vo X r)(ha:PE X a ta)(hb:PE X b tb)(hs:Fl b):PE X (.Subscript a b pos) (XC r ta tb):=by intro pins s σ H Q I h;exact Subscript_ (Ik ha hb I h fun v u s2 x y H2 I2 rx ry q=>hr a b pins s2 σ H2 x y v u Q I2 rx ry q (hs _ _))
def Ji(K:W.Frag):R2:=fun x y H Q=>∃p xs i v,x=.ref p∧y=.int i∧Og K H p xs∧O8 xs i=some v∧Q v H
def Jg(K:W.Frag):R2:=fun x y H Q=>∃p xs i v,x=.ref p∧y=.int i∧O5 K H p xs∧O8 xs i=some v∧Q v H
def Jh:R2:=fun x y H Q=>∃z i c,x=.str z∧y=.int i∧z.length≤sizeLine∧O8 z.cps.toList i=some c∧Q (.str ⟨#[c]⟩) H
theorem ED:Vo X (Ji X.K):=by
 intro value slice pins s σ H x y v u Q I rx ry h hs;obtain⟨p,xs,i,z,rfl,rfl,hq,he,q⟩:=h
 cases rx
 obtain⟨t,rfl⟩:=ry;obtain⟨its,r,pl,hz⟩:=I.list hq;obtain⟨j,h1,h2,h3,h4,h5⟩:=tD he;obtain⟨w,ew,Uo⟩:=r.get h2;have hl:=r.length;have hn:=kr;have fin:EP X pins σ Q w s:=⟨z,H,I,Uo,q⟩
 by_cases h0:0≤i
 ·have hj:i.toNat=j:=by rw[seqIndex_of h0 h5]at h1;exact Option.some.inj h1
  exact item_listR pl.isList h0 (by omega) (by rw[hj];simpa using ew) fin hs
 ·have hj:(i+(its.toArray.size:Int)).toNat=j:=by rw[seqIndex_neg (by omega) h4]at h1;rw[List.size_toArray,← hl];exact Option.some.inj h1
  exact subscriptTail_builtinR (x:=w) pl.isList.typeIs slot_list_getitem.lookup
   (wpAny_getItem_list_neg (Q:=fun r s'=>r=w∧EP X pins σ Q r s') pl.isList (by omega) (by rw[List.size_toArray]<;>omega) (by omega) (by rw[hj];simpa using ew) ⟨rfl,fin⟩) hs
theorem HR:Vo X (Jg X.K):=by
 intro value slice pins s σ H x y v u Q I rx ry h hs;obtain⟨p,xs,i,z,rfl,rfl,hq,he,q⟩:=h
 cases rx
 obtain⟨t,rfl⟩:=ry;obtain⟨its,r,pl,hz⟩:=I.tuple hq;obtain⟨j,h1,h2,h3,h4,h5⟩:=tD he;obtain⟨w,ew,Uo⟩:=r.get h2;have hl:=r.length;have hn:=kr;have fin:EP X pins σ Q w s:=⟨z,H,I,Uo,q⟩
 exact subscriptTail_builtinR (x:=w) pl.typeIs slot_tuple_getitem.lookup
  (getItem_tuple (j:=j) (Q:=fun r s'=>r=w∧EP X pins σ Q r s') pl (by omega) (by omega) (by rw[List.size_toArray,← hl];exact h1) (by simpa using ew) ⟨rfl,fin⟩) hs
theorem HS:Vo X Jh:=by
 intro value slice pins s σ H x y v u Q I rx ry h hs;obtain⟨z,i,c,rfl,rfl,hz,he,q⟩:=h;obtain⟨t,rfl⟩:=rx;obtain⟨t',rfl⟩:=ry;obtain⟨j,h1,h2,h3,h4,h5⟩:=tD he;have hl:z.cps.toList.length=z.length:=by simp[Str.length]
 rw[hl]at h1 h4 h5;have hn:=kr
 exact tail_any (typeIs_str s z t) slot_str_getitem.lookup (getItem_str (c:=c) (by have e1:decide (i< -(2 ^ 63:Int))=false:=decide_eq_false (by omega);have e2:decide (i≥2 ^ 63)=false:=decide_eq_false (by omega);rw[e1,e2,Bool.or_false]) (by rw[h1];simpa using h2) ⟨.str ⟨#[c]⟩,H,I.tok _,⟨_,rfl⟩,q⟩) hs
def rIx(K:W.Frag):R2:=fun x y H Q=>Ji K x y H Q∨Jg K x y H Q∨Jh x y H Q
theorem HU:Vo X (rIx X.K):=ED.or (HR.or HS)
theorem we(its:List Value)(n j:Nat)(u:Value):Obj.mapSeq (·.setIfInBounds j u) { cls:=.type "list",data:=.seq its.toArray n }={ cls:=.type "list",data:=.seq (its.set j u).toArray n }:=by simp[Obj.mapSeq]
theorem Inv.lst{pins:List (Addr×Obj)}{σ:St}{H:Hp}{s:Shared}{p:Addr}{xs:List V}(I:Inv X pins σ H s)(h:H p=some (.lst xs)):
  ∃(its:List Value)(n:Nat),aW xs its∧s.heap.get? p=some { cls:=.type "list",data:=.seq its.toArray n }∧xs.length≤sizeLine:=by
 obtain⟨z,its,n,r,e⟩:=I.hok p _ h;exact⟨its,n,r,e,z⟩
theorem Inv.WY{pins:List (Addr×Obj)}{σ:St}{H:Hp}{s:Shared}{p:Addr}{xs ys:List V}{its Rf:List Value}{n n':Nat}{f:Obj→Obj}(I:Inv X pins σ H s)(h:H p=some (.lst xs))
  (ho:s.heap.get? p=some { cls:=.type "list",data:=.seq its.toArray n }) (hf:f { cls:=.type "list",data:=.seq its.toArray n }={ cls:=.type "list",data:=.seq Rf.toArray n' }) (r:aW ys Rf) (hz:ys.length≤sizeLine) (t:Nat):
  Inv X pins σ (upd H p (.lst ys)) { s with heap:=s.heap.update p f,toks:=t }:=by
 have e:(s.heap.update p f).get? p=some { cls:=.type "list",data:=.seq Rf.toArray n' }:=by rw[Heap.get?_update_self f ho (by rw[hf]<;>rfl),hf]
 refine I.write (x:=p) (e:=p) (by rw[h];trivial) (.inl rfl) (fun b u hb q=>(Heap.get?_update_other _ _ (Ne.symm hb)).trans q) ⟨_,e⟩ ?_;exact⟨hz,Rf,n',r,e⟩
def Je:V→V→V→Hp→(Hp→Prop)→Prop:=fun o i v H Q=>∃p xs k j,o=.ref p∧i=.int k∧H p=some (.lst xs)∧TY xs.length k=some j∧Q (upd H p (.lst (xs.set j v)))
theorem Au:Km X Je:=by
 intro pins s σ H o i v ov iv u Q I ro ri rv h;obtain⟨p,xs,k,j,rfl,rfl,hp,hj,q⟩:=h
 cases ro
 obtain⟨t,rfl⟩:=ri;obtain⟨its,n,r,ho,hz⟩:=I.lst hp;obtain⟨h1,h2,h3,h4⟩:=ya hj;have hl:=r.length;have hn:=kr
 have I':Inv X pins σ (upd H p (.lst (xs.set j v))) { s with heap:=s.heap.update p (Obj.mapSeq (·.setIfInBounds j u)) }:=
  I.WY hp ho (we its n j u) (r.set rv j) (by rw[List.length_set];exact hz) s.toks
 by_cases h0:0≤k
 ·have hk:k.toNat=j:=by rw[seqIndex_of h0 h4]at h1;exact Option.some.inj h1
  exact W.ki_setAt ho h0 (by omega) (by rw[List.size_toArray,← hl];exact h4) (by rw[hk];exact⟨_,I',q⟩)
 ·have hk:(k+(its.toArray.size:Int)).toNat=j:=by rw[seqIndex_neg (by omega) h3]at h1;rw[List.size_toArray,← hl];exact Option.some.inj h1
  exact W.ki_setBack ho (by omega) (by rw[List.size_toArray,← hl];exact h3) (by omega) (by rw[hk];exact⟨_,I',q⟩)
theorem rA(lo hi:Option Int)(n:Nat):(sliceBounds lo hi none n).1=((HT.J9 n 0 lo:Nat):Int)∧(sliceBounds lo hi none n).2.1=((HT.J9 n n hi:Nat):Int)∧(sliceBounds lo hi none n).2.2=1:=by
 refine⟨?_,?_,rfl⟩
 ·cases lo with
  |none=>simp[sliceBounds,HT.J9]
  |some i=>
   simp only[sliceBounds,HT.J9,Option.getD_none,show(1:Int)>0 by decide,if_true]
   by_cases h:i<0
   ·simp only[h,if_true]<;>omega
   ·simp only[h,if_false]<;>omega
 ·cases hi with
  |none=>simp[sliceBounds,HT.J9]
  |some i=>
   simp only[sliceBounds,HT.J9,Option.getD_none,show(1:Int)>0 by decide,if_true]
   by_cases h:i<0
   ·simp only[h,if_true]<;>omega
   ·simp only[h,if_false]<;>omega
theorem pQ(its:List Value)(lo hi:Option Int):slicePick its.toArray lo hi none=((its.drop (HT.J9 its.length 0 lo)).take (HT.J9 its.length its.length hi - HT.J9 its.length 0 lo)).toArray:=by obtain⟨h1,h2,h3⟩:=rA lo hi its.toArray.size;unfold slicePick;rw[h1,h2,h3];simp only[sliceRange_one,pick_run,List.size_toArray]<;>rfl
def Jc(K:W.Frag):V→Option Int→Option Int→Hp→VK→Prop:=fun x lo hi H Q=>∃a xs,x=.ref a∧Og K H a xs∧∀p,H p=none→Q (.ref p) (upd H p (.lst (uU xs lo hi)))
theorem Dz:U8 X (Jc X.K):=by
 intro pins s σ H x v vl vu lo hi sl Q I rx hs pl pu h;obtain⟨a,xs,rfl,hx,q⟩:=h
 cases rx
 obtain⟨its,r,ht,hz⟩:=I.list hx;have L_:=r.length;refine⟨"list",_,slot_list_getitem.lookup,ht.isList.typeIs,?_⟩;refine wpAny_getItem_list_slice ht.isList hs pl pu .none (by simp) ?_ (by rw[List.size_toArray]<;>omega);rw[pQ,← L_];refine⟨.ref s.heap.objs.size,_,I.laid (t':=s.toks) (o:=.lst (uU xs lo hi)) (fun b ob q=>Heap.get?_push_of_some _ q) (ab2 _) ?_,rfl,q _ (I.hok.fresh (ab2 _))⟩;exact⟨Nat.le_trans (mW xs lo hi) hz,_,0,(r.drop (HT.J9 xs.length 0 lo)).take (HT.J9 xs.length xs.length hi - HT.J9 xs.length 0 lo),Heap.get?_push_size _ rfl⟩
theorem sZ:dh X (.builtin "len") (fun xs H Q=>∃p ys,xs= [.ref p]∧(Og X.K H p ys∨O5 X.K H p ys)∧Q (.int ys.length) H):=by
 intro pins s σ H xs us Q I r h;obtain⟨p,ys,rfl,hq,q⟩:=h;obtain⟨u,rfl,rx⟩:=og r
 cases rx
 have hn:=kr;rcases hq with hq|hq
 ·obtain⟨its,r',pl,hz⟩:=I.list hq;have L_:=r'.length;exact Calls.call_len_list pl.isList (by simp only[List.size_toArray]<;>omega) ⟨.int ys.length,H,I.tok _,⟨s.toks+1,by rw[List.size_toArray,L_]⟩,q⟩
 ·obtain⟨its,r',pl,hz⟩:=I.tuple hq;have L_:=r'.length;exact len_tuple pl (by simp only[List.size_toArray]<;>omega) ⟨.int ys.length,H,I.tok _,⟨s.toks+1,by rw[List.size_toArray,L_]⟩,q⟩
theorem sY:dh X (.builtin "len") (fun xs H Q=>∃z,xs= [.str z]∧z.length≤sizeLine∧Q (.int z.length) H):=by intro pins s σ H xs us Q I r h;obtain⟨z,rfl,hz,q⟩:=h;obtain⟨u,rfl,t,rfl⟩:=og r;have hn:=kr;exact len_str (by omega) ⟨.int z.length,H,I.tok _,⟨_,rfl⟩,q⟩
theorem sX:dh X (.type "list") (fun xs H Q=>∃p ys,xs= [.ref p]∧(Og X.K H p ys∨O5 X.K H p ys)∧∀l,H l=none→Q (.ref l) (upd H l (.lst ys))):=by
 intro pins s σ H xs us Q I r h;obtain⟨p,ys,rfl,hq,q⟩:=h;obtain⟨u,rfl,rx⟩:=og r
 cases rx
 have fin:∀(its:List Value),aW ys its→ys.length≤sizeLine→∀(h':Heap)(c':Nat),(∀b o',s.heap.get? b=some o'→h'.get? b=some o')→
   h'.get? s.heap.objs.size=some { cls:=.type "list",dict:=none,data:=.seq its.toArray c',slots:= #[] }→EP X pins σ Q (.ref s.heap.objs.size) { s with heap:=h' }:=fun its r' hz h' c' kp e=>
  ⟨.ref s.heap.objs.size,_,I.laid (t':=s.toks) kp (ab2 _) (show bE X.prog X.w _ h' _ (.lst ys)from⟨hz,its,c',r',e⟩),rfl,q _ (I.hok.fresh (ab2 _))⟩
 rcases hq with hq|hq
 ·obtain⟨its,r',pl,hz⟩:=I.list hq;have L_:=r'.length;obtain⟨o,ho,hc,n,hd⟩:=pl.isList;exact call_list_seq p (.inl rfl) ho hc hd (fun h' c' kp e=>fin its r' hz h' c' kp e) (by simp only[List.size_toArray]<;>omega)
 ·obtain⟨its,r',pl,hz⟩:=I.tuple hq;have L_:=r'.length;obtain⟨o,ho,hc,n,hd⟩:=pl;exact call_list_seq p (.inr rfl) ho hc hd (fun h' c' kp e=>fin its r' hz h' c' kp e) (by simp only[List.size_toArray]<;>omega)
theorem qa:dh X (.type "tuple") (fun xs H Q=>∃p ys,xs= [.ref p]∧((Og X.K H p ys∧∀l,H l=none→Q (.ref l) (upd H l (.tup ys)))∨(O5 X.K H p ys∧Q (.ref p) H))):=by
 intro pins s σ H xs us Q I r h;obtain⟨p,ys,rfl,h⟩:=h;obtain⟨u,rfl,rx⟩:=og r
 cases rx
 rcases h with⟨hq,q⟩|⟨hq,q⟩
 ·obtain⟨its,r',pl,hz⟩:=I.list hq;have L_:=r'.length;refine call_tuple_list pl.isList (fun h' kp=>?_) (by simp only[List.size_toArray]<;>omega);have I1:Inv X pins σ H { s with heap:=h' }:=I.kept (t':=s.toks) kp
  have I2:Inv X pins σ (upd H h'.objs.size (.tup ys)) { s with heap:=h'.push { cls:=.type "tuple",data:=.seq its.toArray } }:=
   I1.laid (t':=s.toks) (fun b o e=>Heap.get?_push_of_some _ e) (ab2 _) (show bE X.prog X.w _ _ _ (.tup ys)from⟨hz,its,r',IsTup.new _ _⟩)
  exact⟨.ref h'.objs.size,_,I2,rfl,q _ (I1.hok.fresh (ab2 _))⟩
 ·obtain⟨its,r',pl,hz⟩:=I.tuple hq;exact call_tuple_same pl ⟨.ref p,H,I,rfl,q⟩
def Xz(K:W.Frag)(T:String)(x:V)(H:Hp):Prop:=match x with
 |.str _=>T="str"
 |.int _=>T="int"
 |.ref p=>(T="list"∧∃xs,Og K H p xs)∨(T="tuple"∧∃o,K.lookup p=some o∧o.cls=.type "tuple"∧o.dict=none)∨
   (T="dict"∧((∃kvs,H p=some (.dK kvs))∨∃kvs,H p=some (.dT kvs)))∨(T="set"∧∃S n,H p=some (.set S n))
 |_=>False
theorem Go{pins:List (Addr×Obj)}{σ:St}{H:Hp}{s:Shared}{T:String}{x:V}{v:Value}(I:Inv X pins σ H s)(r:bn x v)(ty:Xz X.K T x H):
  s.TypeIs v T∧∀a,v=.ref a→∃ob,s.heap.get? a=some ob∧ob.dict=none:=by
 cases x with
 |str z=>
  obtain⟨t,rfl⟩:=r
  cases(show T="str" from ty)
  exact⟨typeIs_str s z t,fun _ e=>nomatch e⟩
 |int i=>
  obtain⟨t,rfl⟩:=r
  cases(show T="int" from ty)
  exact⟨typeIs_int s i t,fun _ e=>nomatch e⟩
 |ref p=>
  cases r
  rcases ty with⟨rfl,xs,hq⟩|⟨rfl,o,hk,hc,hd⟩|⟨rfl,hk⟩|⟨rfl,S,n,hk⟩
  ·obtain⟨its,_,pl,_⟩:=I.list hq;refine⟨pl.isList.typeIs,fun a e=>?_⟩
   cases e
   obtain⟨o,n,e,c,hd,_⟩:=pl;exact⟨o,e,hd⟩
  ·refine⟨⟨o,I.RJ p o hk,hc⟩,fun a e=>?_⟩
   cases e
   exact⟨o,I.RJ _ o hk,hd⟩
  ·have z:∃o,s.heap.get? p=some o∧o.ExactDict:=by
    rcases hk with⟨kvs,hk⟩|⟨kvs,hk⟩
    ·obtain⟨_,_,_,_,o,_,_,e,ex,_⟩:=I.hok p _ hk;exact⟨o,e,ex⟩
    ·obtain⟨_,_,_,_,o,_,_,e,ex,_⟩:=I.hok p _ hk;exact⟨o,e,ex⟩
   obtain⟨o,e,ex⟩:=z;refine⟨⟨o,e,ex.1⟩,fun a e2=>?_⟩
   cases e2
   exact⟨o,e,ex.2.1⟩
  ·obtain⟨o,_,_,_,e,ex,_⟩:=I.hok p _ hk;refine⟨⟨o,e,ex.1⟩,fun a e2=>?_⟩
   cases e2
   exact⟨o,e,ex.2.1⟩
 |_=>exact False.elim ty
noncomputable def tBM(K:W.Frag)(T:String)(r:V→List V→Hp→VK→Prop)(to:TE)(t:TA):TE:=fun σ H Q=>to σ H fun x H1=>Xz K T x H1∧t σ H1 fun xs H2=>r x xs H2 Q
variable{o e:Expr}{es:List Expr}{to:TE}{t:TA}{name:Str}{apos Oe:Pos}{T id:String}{r:V→List V→Hp→VK→Prop}
theorem Jq(pa:PlainAttrs T)(slot:Slot T name id)(Yg:typeOf (.builtin id)=pure (.type "method_descriptor"))(hm:Zy X id r)(ho:PE X o to)(ha:PA X (e::es) t)
  (Vk:attributeBase o name X.env (eval o X.env)=eval o X.env:=by rfl)
  (W9:((backTo Oe (starEach (e::es) X.env)).all (fun x=>!x.1)&&(backToKw Oe (keywordEach [] X.env)).all (fun x=>x.1.isSome)
   &&decide ((e::es).length+([]:List Keyword).length+(if([]:List Keyword).isEmpty then 0 else 1)<30))=true:=by rfl)
  (hline:(apos.endLine==Oe.line)=true:=by rfl)(hs:sE0 X e es:=by rfl) (Uc:(backTo Oe (starEach es X.env)).any (·.1)=false:=by rfl):
  PE X (.Call (.Attribute o name apos) (e::es) [] Oe) (tBM X.K T r to t):=by
 intro pins s σ H Q I h;refine wpAny_Call_method_late Vk W9 hline rfl (I_ (ho pins s σ H _ I h) ?_);rintro v s1 ⟨x,H1,I1,r1,ty,q1⟩;obtain⟨h1,h2⟩:=Go I1 r1 ty;refine⟨T,id,pa,slot,Yg,h1,h2,?_⟩;have hA:=ha Oe pins s1 σ H1 _ I1 q1;rw[hs]at hA ⊢;refine Calls.callWith_builtin (by show(false||(backTo Oe (starEach es X.env)).any (·.1))=false;rw[Uc]<;>rfl) (Calls.evalArgs_plain ?_);exact I_ hA (by rintro us s2 ⟨vs,H2,I2,r2,q2⟩;exact hm pins s2 σ H2 x vs v us Q I2 r1 r2 q2)
end
def MtM(X:Cx)(id:String)(r:V→List V→Hp→VK→Prop):Prop:=
 ∀(pins:List (Addr×Obj))(s:Shared)(σ:St)(H:Hp)(x:V)(xs:List V)(v:Value)(us:List Value)(Q:VK),Inv X pins σ H s→bn x v→aW xs us→r x xs H Q→
  wpAny (model X.prog X.w) X.A (call (.builtin id) (v::us)) (EP X pins σ Q) X.xe s
theorem aW.one:∀{x:V}{us:List Value},aW [x] us→∃u,us= [u]∧bn x u
 |_,_,.cons r .nil=>⟨_,rfl,r⟩
theorem aW.rep{xs:List V}{us:List Value}(h:aW xs us):∀k:Nat,aW (List.replicate k xs).flatten (List.replicate k us).flatten
 |0=>.nil
 |k+1=>by rw[List.replicate_succ,List.replicate_succ,List.flatten_cons,List.flatten_cons];exact aW.append h (aW.rep h k)
theorem mK(its:List Value):∀(k:Nat)(acc:List Value),
  List.foldl (fun x1 x2=>x1++x2) acc.toArray (List.replicate k its.toArray)=(acc++(List.replicate k its).flatten).toArray
 |0,acc=>by simp
 |k+1,acc=>by
  have e:acc.toArray++its.toArray=(acc++its).toArray:=by simp
  have e2:(acc++its)++(List.replicate k its).flatten=acc++(List.replicate (k+1) its).flatten:=by rw[List.replicate_succ,List.flatten_cons,List.append_assoc]
  rw[← e2,← mK its k (acc++its),← e,List.replicate_succ,List.foldl_cons]
section
variable{X:Cx}{pins:List (Addr×Obj)}{σ:St}{H:Hp}{s:Shared}{l b:Addr}{xs ys zs:List V}
theorem Inv.Z5{its Rf:List Value}{n:Nat}{f:Array Value→Array Value}{t':Nat}(I:Inv X pins σ H s)(hH:H l=some (.lst xs))
  (e:s.heap.get? l=some { cls:=.type "list",data:=.seq its.toArray n }) (hf:f its.toArray=Rf.toArray) (hv:aW ys Rf) (hz:ys.length≤sizeLine):
  Inv X pins σ (upd H l (.lst ys)) { s with heap:=s.heap.update l (Obj.mapSeq f),toks:=t' }:=by
 have q:=PySem.IsL.update e f;rw[hf]at q;refine I.write (x:=l) (e:=l) (by rw[hH];exact trivial) (.inl rfl) (fun b' u hb hu=>(Heap.get?_update_other s.heap (Obj.mapSeq f) (Ne.symm hb)).trans hu) ⟨_,q⟩ ?_;exact⟨hz,Rf,_,hv,q⟩
theorem Inv.Yb{its:List Value}{t':Nat}(I:Inv X pins σ H s)(hv:aW ys its)(hz:ys.length≤sizeLine):
  Inv X pins σ (upd H s.heap.objs.size (.lst ys)) { s with heap:=s.heap.push { cls:=.type "list",data:=.seq its.toArray },toks:=t' }:=
 I.laid (fun _ _ q=>Heap.get?_push_of_some _ q) (ab2 _) ⟨hz,its,0,hv,Heap.get?_push_size _ rfl⟩
theorem Inv.fresh(I:Inv X pins σ H s):H s.heap.objs.size=none:=I.hok.fresh (ab2 _)
theorem Inv.V5(I:Inv X pins σ H s)(hH:H l=some (.lst xs)):xs.length≤sizeLine∧∃(its:List Value)(n:Nat),aW xs its∧xs.length=its.length∧s.heap.get? l=some { cls:=.type "list",data:=.seq its.toArray n }:=by obtain⟨z,its,n,r,e⟩:=I.hok l _ hH;exact⟨z,its,n,r,r.length,e⟩
theorem BL{n:Nat}(h:n≤sizeLine):Builtin.List.listTooLong n=false:=by unfold Builtin.List.listTooLong;exact decide_eq_false (by omega)
end
section
variable{X:Cx}
def xv:V→List V→Hp→VK→Prop:=fun x vs H Q=>∃l xs y,x=.ref l∧vs= [y]∧H l=some (.lst xs)∧xs.length<sizeLine∧Q .non (upd H l (.lst (xs++ [y])))
theorem mG:MtM X "list.append" xv:=by
 intro pins s σ H x vs v us Q I rx rv h;obtain⟨l,xs,y,rfl,rfl,hH,hz,q⟩:=h
 cases rx
 obtain⟨u,rfl,ru⟩:=rv.one;obtain⟨z,its,n,r,hl,e⟩:=I.V5 hH;refine call_meets F.slot_list_append ⟨_,e,rfl⟩ F.entry_list_append (F.args_list_append_2 _ _) (PySem.list_append l its.toArray n u (by rw[List.size_toArray];omega)) ⟨e,?_⟩;refine⟨.non,_,I.Z5 (Rf:=its++ [u]) hH e (by simp) (r.append (.cons ru .nil)) ?_,rfl,q⟩;rw[List.length_append,List.length_singleton];omega
def Jj:R2:=fun x y H Q=>∃l b xs zs,x=.ref l∧y=.ref b∧H l=some (.lst xs)∧H b=some (.lst zs)∧xs.length+zs.length≤sizeLine∧∀p,H p=none→Q (.ref p) (upd H p (.lst (xs++zs)))
theorem HA:Ov X (binaryOp .Add) Jj:=by
 intro pins s σ H x y v u Q I rx ry h;obtain⟨l,b,xs,zs,rfl,rfl,hH,hB,hz,q⟩:=h
 cases rx
 cases ry
 obtain⟨z,its,n,r,hl,e⟩:=I.V5 hH;obtain⟨z2,V6,n2,r2,hl2,e2⟩:=I.V5 hB;refine PySem.P.add_list e e2 ?_ (by rw[List.size_toArray,List.size_toArray];omega);have ea:its.toArray++V6.toArray=(its++V6).toArray:=by simp
 rw[ea];exact⟨.ref _,_,I.Yb (t':=s.toks) (r.append r2) (by rw[List.length_append];omega),rfl,q _ I.fresh⟩
def Jf:R2:=fun x y H Q=>∃l k xs,x=.ref l∧y=.int k∧H l=some (.lst xs)∧ -(2 ^ 63)≤k∧k<2 ^ 63∧xs.length * k.toNat≤sizeLine∧
 ∀p,H p=none→Q (.ref p) (upd H p (.lst (List.replicate k.toNat xs).flatten))
theorem sA{α:Type}(xs:List α)(k:Nat):(List.replicate k xs).flatten.length=k * xs.length:=by
 induction k with
 |zero=>simp
 |succ k ih=>rw[List.replicate_succ,List.flatten_cons,List.length_append,ih,Nat.succ_mul,Nat.add_comm]
theorem Hy:Ov X (binaryOp .Mult) Jf:=by
 intro pins s σ H x y v u Q I rx ry h;obtain⟨l,k,xs,rfl,rfl,hH,h1,h2,hz,q⟩:=h
 cases rx
 obtain⟨t,rfl⟩:=ry;obtain⟨z,its,n,r,hl,e⟩:=I.V5 hH;have L_:its.toArray.size * k.toNat≤sizeLine:=by rw[List.size_toArray,← hl];exact hz
 have aaF:¬ its.toArray.size * k.toNat>(2 ^ 63 - 1) / 8:=by
  have:(sizeLine:Nat)≤(2 ^ 63 - 1) / 8:=by decide
  omega
 have aaA:¬ (!Builtin.List.listFitsIndex k)=true:=by rw[fitsIndex_both h1 h2];exact Bool.false_ne_true
 have Yj:¬ Builtin.List.listTooLong (its.toArray.size * k.toNat)=true:=by rw[BL L_];exact Bool.false_ne_true
 have aar:List.foldl (fun x1 x2=>x1++x2) #[] (List.replicate (if its.toArray.isEmpty=true then 0 else k.toNat) its.toArray)=(List.replicate k.toNat its).flatten.toArray:=by
  have f0:∀m:Nat,List.foldl (fun x1 x2=>x1++x2) #[] (List.replicate m its.toArray)=(List.replicate m its).flatten.toArray:=fun m=>by have:=mK its m [];rw[List.nil_append]at this;exact this
  rw[f0]
  cases its with
  |nil=>simp
  |cons a r'=>rw[if_neg (by simp)]
 refine wpAny_binaryOp_repeat_ref (T:="list") (U:="int") (by decide) ⟨_,e,rfl⟩ (fun s'=>typeIs_int s' k t) noFill_list_mul F.fills_int_mul F.slot_int_rmul repeat_list F.slot_int_index.lookup
  (call_meets F.slot_int_rmul (typeIs_int s k t) F.entry_int_rmul (F.args_int_rmul_2 _ _) (int___rmul___int_list k t l its.toArray n)
   ⟨e,rfl,⟨_,e,rfl⟩,call_meets F.slot_list_mul ⟨_,e,rfl⟩ F.entry_list_mul (F.args_list_mul_2 _ _) (AutoListH.list___mul___list_int_3 l its.toArray n k t aaA aaF Yj) ⟨e,?_⟩⟩)
 rw[aar];exact⟨.ref _,_,I.Yb (t':=s.toks) (r.rep k.toNat) (by rw[sA,Nat.mul_comm];exact hz),rfl,q _ I.fresh⟩
end
section
variable{prog:Program}{w:World}{A:Around}{E:Value→Shared→Prop}{s:Shared}
set_option maxRecDepth 100000 in
end
section
variable{κ:Type} [DecidableEq κ]
noncomputable def lW(kvs:List (κ×V))(k:κ):Option V:=(kvs.find? fun kv=>decide (kv.1=k)).map (·.2)
noncomputable def iD(kvs:List (κ×V))(k:κ)(v:V):List (κ×V):=
 if(kvs.any fun kv=>decide (kv.1=k))=true then kvs.map (fun kv=>if kv.1=k then(kv.1,v)else kv)else kvs++ [(k,v)]
theorem kI{p:κ×V}{r:List (κ×V)}{k:κ}(e:p.1=k):lW (p::r) k=some p.2:=by simp[lW,List.find?_cons,e]
theorem kJ{p:κ×V}{r:List (κ×V)}{k:κ}(e:¬ p.1=k):lW (p::r) k=lW r k:=by simp[lW,List.find?_cons,e]
theorem tQ(k:κ):∀kvs:List (κ×V),(kvs.any fun kv=>decide (kv.1=k))=(lW kvs k).isSome
 |[]=>rfl
 |p::r=>by
  rw[List.any_cons]
  by_cases e:p.1=k
  ·simp only[kI e,decide_eq_true e,Bool.true_or,Option.isSome_some]
  ·rw[kJ e,decide_eq_false e,Bool.false_or];exact tQ k r
theorem jo(kvs:List (κ×V))(k:κ)(v:V):(iD kvs k v).length≤kvs.length+1:=by
 unfold iD
 split
 ·rw[List.length_map];omega
 ·rw[List.length_append,List.length_cons,List.length_nil];omega
theorem pL.O6{o:Option V}{u:Option Value}(r:pL o u):o.isSome=u.isSome:=by
 cases o with
 |none=>cases u with
  |none=>rfl
  |some _=>exact(show False from r).elim
 |some _=>cases u with
  |none=>exact(show False from r).elim
  |some _=>rfl
theorem KV.val{kvs:List (κ×V)}{vs:List (κ×Value)}(r:KV kvs vs)(k:κ):pL (lW kvs k) (valueAt vs k):=by
 unfold KV at r
 induction r with
 |nil=>exact True.intro
 |@cons p q ps qs h t ih=>
  obtain⟨h1,h2⟩:=h
  by_cases e:p.1=k
  ·have e':q.1=k:=h1.symm.trans e;have b:valueAt (q::qs) k=some q.2:=by simp[valueAt,List.find?_cons,e']
   rw[kI e,b];exact h2
  ·have e':¬ q.1=k:=fun z=>e (h1.trans z);have b:valueAt (q::qs) k=valueAt qs k:=by simp[valueAt,List.find?_cons,e']
   rw[kJ e,b];exact ih
theorem KV.any{kvs:List (κ×V)}{vs:List (κ×Value)}(r:KV kvs vs)(k:κ):(kvs.any fun kv=>decide (kv.1=k))=vs.any fun kv=>decide (kv.1=k):=by
 unfold KV at r
 induction r with
 |nil=>rfl
 |cons h t ih=>rw[List.any_cons,List.any_cons,ih,h.1]
theorem KV.repl{kvs:List (κ×V)}{vs:List (κ×Value)}(r:KV kvs vs)(k:κ){y:V}{u:Value}(ry:bn y u):
  KV (kvs.map fun kv=>if kv.1=k then(kv.1,y)else kv) (vs.map fun kv=>if kv.1=k then(kv.1,u)else kv):=by
 unfold KV at r ⊢
 induction r with
 |nil=>exact .nil
 |@cons p q ps qs h t ih=>
  rw[List.map_cons,List.map_cons];refine .cons ?_ ih;obtain⟨h1,h2⟩:=h
  by_cases e:p.1=k
  ·rw[if_pos e,if_pos (h1.symm.trans e)];exact⟨h1,ry⟩
  ·rw[if_neg e,if_neg (fun z=>e (h1.trans z))];exact⟨h1,h2⟩
theorem KV.put{kvs:List (κ×V)}{vs:List (κ×Value)}(r:KV kvs vs)(k:κ){y:V}{u:Value}(ry:bn y u):KV (iD kvs k y) (stored vs k u):=by
 unfold iD stored;rw[r.any k]
 by_cases e:(vs.any fun kv=>decide (kv.1=k))=true
 ·rw[if_pos e,if_pos e];exact r.repl k ry
 ·rw[if_neg e,if_neg e];exact Paired.snoc r ⟨rfl,ry⟩
theorem KV.length{kvs:List (κ×V)}{vs:List (κ×Value)}(r:KV kvs vs):kvs.length=vs.length:=Paired.length r
end
theorem qF{P:Program}{w:World}{k:Key}{u:Value}(r:bn (kV k) u):(bW P w).is k u=true:=by
 cases k with
 |inl i=>obtain⟨t,e⟩:=(show∃t,u=Value.int i t from r);subst e;exact uF P w i t
 |inr x=>obtain⟨t,e⟩:=(show∃t,u=Value.str x t from r);subst e;exact uE P w x t
theorem qH{P:Program}{w:World}:∀{ks:List Key}{us:List Value},aW (ks.map kV) us→ItemsAre (bW P w) ks us
 |[],_,r=>by rw[List.map_nil]at r;cases r;exact .nil
 |k::ks,_,r=>by
  rw[List.map_cons]at r
  cases r with
  |cons h t=>exact .cons (qF h) (qH t)
abbrev KT(H:Hp):List (List Key×V)→List (List Key×Addr×Value)→Prop:=Paired fun p q=>p.1=q.1∧H q.2.1=some (.tup (p.1.map kV))∧bn p.2 q.2.2
theorem KT.val{H:Hp}{kvs:List (List Key×V)}{xs:List (List Key×Addr×Value)}(r:KT H kvs xs)(k:List Key):pL (lW kvs k) ((atKey xs k).map (·.2)):=by
 induction r with
 |nil=>exact True.intro
 |@cons p q ps qs h t ih=>
  obtain⟨h1,_,h2⟩:=h
  by_cases e:p.1=k
  ·have e':q.1=k:=h1.symm.trans e;have b:atKey (q::qs) k=some q.2:=by simp[atKey,List.find?_cons,e']
   rw[kI e,b];exact h2
  ·have e':¬ q.1=k:=fun z=>e (h1.trans z);have b:atKey (q::qs) k=atKey qs k:=by simp[atKey,List.find?_cons,e']
   rw[kJ e,b];exact ih
theorem KT.repl{H:Hp}{kvs:List (List Key×V)}{xs:List (List Key×Addr×Value)}(r:KT H kvs xs)(k:List Key){y:V}{u:Value}(ry:bn y u):
  KT H (kvs.map fun kv=>if kv.1=k then(kv.1,y)else kv) (xs.map (putAt k u)):=by
 induction r with
 |nil=>exact .nil
 |@cons p q ps qs h t ih=>
  rw[List.map_cons,List.map_cons];refine .cons ?_ ih;obtain⟨h1,h2,h3⟩:=h;unfold putAt
  by_cases e:p.1=k
  ·rw[if_pos e,if_pos (h1.symm.trans e)];exact⟨h1,h2,ry⟩
  ·rw[if_neg e,if_neg (fun z=>e (h1.trans z))];exact⟨h1,h2,h3⟩
theorem KT.put{H:Hp}{kvs:List (List Key×V)}{xs:List (List Key×Addr×Value)}(r:KT H kvs xs)(k:List Key){b:Addr}{y:V}{u:Value}(hb:H b=some (.tup (k.map kV)))(ry:bn y u):
  KT H (iD kvs k y) (storedH xs k b u):=by
 have e:(kvs.any fun kv=>decide (kv.1=k))=(atKey xs k).isSome:=by rw[tQ,(r.val k).O6,Option.isSome_map]
 unfold iD storedH;rw[e]
 by_cases q:(atKey xs k).isSome=true
 ·rw[if_pos q,if_pos q];exact r.repl k ry
 ·rw[if_neg q,if_neg q];exact Paired.snoc r ⟨rfl,hb,ry⟩
theorem KT.keeps{H H':Hp}{kvs:List (List Key×V)}{xs:List (List Key×Addr×Value)}(r:KT H kvs xs)(ht:∀b ys,H b=some (.tup ys)→H' b=some (.tup ys)):KT H' kvs xs:=
 Paired.WX r fun _ _ z=>⟨z.1,ht _ _ z.2.1,z.2.2⟩
section
variable{P:Program}{w:World}{H:Hp}{h:Heap}{a:Addr}
theorem Fu{u:HO}(ok:Pq P w H h)(e:Rd H a u):bE P w H h a u:=e.ok ok
theorem mV{kvs:List (Key×V)}(ok:Pq P w H h)(e:Rd H a (.dK kvs)):kvs.length≤sizeLine∧(a==sysModules)=false∧∃vs,KV kvs vs∧h.DictOf (bW P w) a vs:=
 show bE P w H h a (.dK kvs)from Fu ok e
theorem FU{kvs:List (Key×V)}(ok:Pq P w H h)(e:H a=some (.dK kvs)):kvs.length≤sizeLine∧(a==sysModules)=false∧∃vs,KV kvs vs∧h.DictOf (bW P w) a vs:=mV ok (.inl e)
theorem oZ{ks:List Key}(ok:Pq P w H h)(e:H a=some (.tup (ks.map kV))):(tupleKind (bW P w)).is h ks a:=by
 obtain⟨_,its,r,o,h1,h2,n,h3⟩:=(show bE P w H h a (.tup (ks.map kV))from ok a _ e)
 exact⟨o,its.toArray,n,h1,h2,h3,by simpa using qH r⟩
theorem uR{kvs:List (List Key×V)}(ok:Pq P w H h)(e:Rd H a (.dT kvs)):kvs.length≤sizeLine∧(a==sysModules)=false∧
  ∃xs,KT H kvs xs∧h.DictOfH (tupleKind (bW P w)) a xs:=by
 obtain⟨z,y,xs,r,o,es,ep,h1,h2,h3,h4,h5⟩:=(show bE P w H h a (.dT kvs)from Fu ok e)
 refine⟨z,y,xs,r,o,es,ep,h1,h2,h3,h4,fun x hx=>?_,h5⟩
 have all:∀{l:List (List Key×V)}{m:List (List Key×Addr×Value)},KT H l m→∀x∈m,(tupleKind (bW P w)).is h x.1 x.2.1:=by
  intro l m q
  induction q with
  |nil=>intro x hx;exact nomatch hx
  |@cons p q ps qs hq t ih=>
   intro x hx;rcases List.mem_cons.mp hx with e|hx
   ·subst e;exact oZ ok (by rw[← hq.1];exact hq.2.1)
   ·exact ih x hx
 exact all r x hx
theorem Kb{kvs:List (List Key×V)}(ok:Pq P w H h)(e:H a=some (.dT kvs)):kvs.length≤sizeLine∧(a==sysModules)=false∧
  ∃xs,KT H kvs xs∧h.DictOfH (tupleKind (bW P w)) a xs:=uR ok (.inl e)
end
def vk(H:Hp)(a:Addr)(y:V)(r:Option V):Prop:=
 (∃kvs k,Rd H a (.dK kvs)∧y=kV k∧r=lW kvs k)∨∃kvs k b,Rd H a (.dT kvs)∧y=.ref b∧H b=some (.tup (k.map kV))∧r=lW kvs k
def Dk(H:Hp)(a:Addr)(y v:V)(H':Hp):Prop:=
 (∃kvs k,H a=some (.dK kvs)∧y=kV k∧kvs.length<sizeLine∧H'=upd H a (.dK (iD kvs k v)))∨
 ∃kvs k b,H a=some (.dT kvs)∧y=.ref b∧H b=some (.tup (k.map kV))∧kvs.length<sizeLine∧H'=upd H a (.dT (iD kvs k v))
theorem Dk.k{H:Hp}{a:Addr}{kvs:List (Key×V)}{k:Key}{v:V}(e:H a=some (.dK kvs))(hl:kvs.length<sizeLine):Dk H a (kV k) v (upd H a (.dK (iD kvs k v))):=.inl ⟨kvs,k,e,rfl,hl,rfl⟩
section
variable{X:Cx}{pins:List (Addr×Obj)}{σ:St}{H:Hp}{s:Shared}{a:Addr}{y v:V}{u r:Value}{o:Option V}{A:Around}{E:Value→Shared→Prop}
theorem Inv.big(I:Inv X pins σ H s):sysModules<s.heap.objs.size:=by have h:mainGlobals<s.heap.objs.size:=(I.mod.glob.keeps I.bk).lt;exact Nat.lt_trans (by decide) h
theorem zG{Q:Value→Shared→Prop}(hu:A.units+1<cLine)(I:Inv X pins σ H s)(g:vk H a y (some v))(ry:bn y u)(h:∀w' s',Inv X pins σ H s'→bn v w'→Q w' s'):
  wpAny (model X.prog X.w) A (getItem (.ref a) u) Q E s:=by
 rcases g with⟨kvs,k,e,ey,l⟩|⟨kvs,k,b,e,ey,eb,l⟩
 ·subst ey;obtain⟨z,hd,vs,rel,dd⟩:=mV I.hok e;obtain⟨w',hw,Uo⟩:=pL.some_of (v:=v) (o:=valueAt vs k) (by rw[l];exact rel.val k);exact wpAny_getItem_of (qF ry) dd.mapOf hw (h w' _ (I.tok _) Uo)
 ·subst ey
  cases(show u=Value.ref b from ry)
  obtain⟨z,hd,xs,rel,dd⟩:=uR I.hok e;obtain⟨w',hw,Uo⟩:=pL.some_of (v:=v) (o:=(atKey xs k).map (·.2)) (by rw[l];exact rel.val k);obtain⟨p,hp,VD⟩:=Option.map_eq_some_iff.mp hw;refine wpAny_getItem_heap (tupleKind_room_in1 hu) (oZ I.hok eb) dd hp ?_;rw[VD];exact h w' _ (I.tok _) Uo
theorem Mt{Q:Value→Shared→Prop}(hu:A.units+1<cLine)(I:Inv X pins σ H s)(g:vk H a y o)(ry:bn y u)(h:∀s',Inv X pins σ H s'→Q (.bool o.isSome) s'):
  wpAny (model X.prog X.w) A (compareOp .In u (.ref a)) Q E s:=by
 rcases g with⟨kvs,k,e,ey,l⟩|⟨kvs,k,b,e,ey,eb,l⟩
 ·subst ey;obtain⟨z,hd,vs,rel,dd⟩:=mV I.hok e;refine wpAny_in_of (qF ry) hd dd.mapOf ?_;rw[← (rel.val k).O6,← l];exact h _ (I.tok _)
 ·subst ey
  cases(show u=Value.ref b from ry)
  obtain⟨z,hd,xs,rel,dd⟩:=uR I.hok e;refine wpAny_in_heap (tupleKind_room_in1 hu) (oZ I.hok eb) hd dd ?_;have q:=(rel.val k).O6;rw[Option.isSome_map]at q;rw[← q,← l];exact h _ (I.tok _)
theorem Fc{Q:Value→Shared→Prop}(hu:A.units+1<cLine)(I:Inv X pins σ H s)(g:vk H a y o)(ry:bn y u)(h:∀s',Inv X pins σ H s'→Q (.bool (!o.isSome)) s'):
  wpAny (model X.prog X.w) A (compareOp .NotIn u (.ref a)) Q E s:=by
 rcases g with⟨kvs,k,e,ey,l⟩|⟨kvs,k,b,e,ey,eb,l⟩
 ·subst ey;obtain⟨z,hd,vs,rel,dd⟩:=mV I.hok e;refine wpAny_notIn_of (qF ry) hd dd.mapOf ?_;rw[← (rel.val k).O6,← l];exact h _ (I.tok _)
 ·subst ey
  cases(show u=Value.ref b from ry)
  obtain⟨z,hd,xs,rel,dd⟩:=uR I.hok e;refine wpAny_notIn_heap (tupleKind_room_in1 hu) (oZ I.hok eb) hd dd ?_;have q:=(rel.val k).O6;rw[Option.isSome_map]at q;rw[← q,← l];exact h _ (I.tok _)
theorem sR{h':Heap}{t':Nat}{ob:HO}(I:Inv X pins σ H s)(mu:YL (H a))(hs:Heap.SameBut a s.heap h')(he:∃q,h'.get? a=some q)(new:bE X.prog X.w (upd H a ob) h' a ob):
  Inv X pins σ (upd H a ob) { s with heap:=h',toks:=t' }:=
 I.write (x:=a) (e:=a) mu (.inl rfl) (fun b q hb z=>(hs.2 b hb).trans z) he new
theorem wF{P:Program}{w:World}{H':Hp}{h':Heap}{kvs:List (Key×V)}{vs:List (Key×Value)}(z:kvs.length≤sizeLine)(hd:(a==sysModules)=false)(rel:KV kvs vs)(dd:h'.DictOf (bW P w) a vs):
  bE P w H' h' a (.dK kvs):=⟨z,hd,vs,rel,dd⟩
theorem zF{H':Hp}{Q:Unit→Shared→Prop}(hu:A.units+1<cLine)(I:Inv X pins σ H s)(g:Dk H a y v H')(ry:bn y u)(rv:bn v r)(h:∀s',Inv X pins σ H' s'→Q () s'):
  wpAny (model X.prog X.w) A (setItem (.ref a) u r) Q E s:=by
 rcases g with⟨kvs,k,e,ey,l,eH⟩|⟨kvs,k,b,e,ey,eb,l,eH⟩
 ·subst ey eH;obtain⟨z,hd,vs,rel,dd⟩:=FU I.hok e;have hz:vs.length≤sizeLine:=by rw[← rel.length];exact z
  have hl:(iD kvs k v).length≤sizeLine:=by have:=jo kvs k v;omega
  refine wpAny_setItem_pairs (hsz:=hz) (qF ry) dd fun h' Wc hs=>h _ ?_;have he:∃q,h'.get? a=some q:=let⟨q,_,_,hq,_⟩:=Wc;⟨q,hq⟩;exact sR I (by rw[e];exact True.intro) hs he (wF hl hd (rel.put k rv) Wc)
 ·subst ey eH
  cases(show u=Value.ref b from ry)
  obtain⟨z,hd,xs,rel,dd⟩:=Kb I.hok e;have hz:xs.length≤sizeLine:=by rw[← Paired.length rel];exact z
  have hl:(iD kvs k v).length≤sizeLine:=by have:=jo kvs k v;omega
  refine wpAny_setItem_heap (hsz:=hz) (tupleKind_room_in1 hu) (oZ I.hok eb) dd fun h' Wc hs=>h _ ?_;obtain⟨q,es,ep,hq,h2,h3,h4,_,h5⟩:=Wc;refine sR I (by rw[e];exact True.intro) hs ⟨q,hq⟩ ⟨hl,hd,_,(rel.put k eb rv).keeps fun c ys ec=>?_,q,es,ep,hq,h2,h3,h4,h5⟩;rw[ai (qu ec e (fun z=>nomatch z))];exact ec
end
section
variable{X:Cx}{pins:List (Addr×Obj)}{σ:St}{H:Hp}{s:Shared}{a:Addr}{kvs:List (Key×V)}{k:Key}{u:Value}{A:Around}{E:Value→Shared→Prop}
theorem Kc{Q:Value→Shared→Prop}(I:Inv X pins σ H s)(e:Rd H a (.dK kvs))(h:∀t s',Inv X pins σ H s'→Q (.int kvs.length t) s'):wpAny (model X.prog X.w) A (call (.builtin "len") [.ref a]) Q E s:=by obtain⟨z,hd,vs,rel,dd⟩:=mV I.hok e;refine call_len_dict hd dd (by rw[← rel.length];rw[sizeLine_eq]at z;omega) ?_;rw[← rel.length];exact h _ _ (I.tok _)
end
theorem uT{X:Cx}{pins:List (Addr×Obj)}{σ:St}{H:Hp}{s:Shared}{a:Addr}{y:V}{o:Option V}(I:Inv X pins σ H s)(g:vk H a y o):s.TypeIs (.ref a) "dict":=by
 rcases g with⟨kvs,k,e,_,_⟩|⟨kvs,k,b,e,_,_,_⟩
 ·obtain⟨_,_,vs,_,dd⟩:=mV I.hok e;exact dd.typeIs
 ·obtain⟨_,_,xs,_,dd⟩:=uR I.hok e;exact dd.typeIs
noncomputable def IV(td ty tv:TE):TS:=fun D σ H=>tv σ H fun v H1=>td σ H1 fun x H2=>ty σ H2 fun y H3=>∃a H4,x=.ref a∧Dk H3 a y v H4∧D.nx σ H4
section
variable{X:Cx}{o i e value:Expr}{pos pos' acJ:Pos}{td ty tv:TE}
theorem DV(hu:X.A.units+1<cLine)(ho:PE X o td)(hi:PE X i ty)(hv:PE X value tv)(hs:swapsWith value (some (.Subscript o i pos')) pos.line X.env=pure false):
  PS X (.Assign [.Subscript o i pos'] value pos) (IV td ty tv):=by
 intro pins s σ H D I h;refine wpAny_Assign_Subscript (I_ (hv pins s σ H _ I h) fun r s1 ⟨v,H1,I1,rv,q1⟩=>I_ (ho pins s1 σ H1 _ I1 q1) fun u s2 ⟨x,H2,I2,rx,q2⟩=>I_ (hi pins s2 σ H2 _ I2 q2) ?_) hs;rintro iv s3 ⟨y,H3,I3,ry,a,H4,ex,g,q3⟩;subst ex;obtain rfl:u=Value.ref a:=rx;exact zF hu I3 g ry rv fun s4 I4=>⟨σ,H4,I4,q3⟩
end
theorem uS{P:Program}{w:World}{H:Hp}(h:Heap)(hb:sysModules<h.objs.size):bE P w H (h.push { cls:=.type "dict",data:=.dict #[] }) h.objs.size (.dK []):=
 ⟨Nat.zero_le _,beq_eq_false_iff_ne.mpr (Ne.symm (Nat.ne_of_lt hb)),[],.nil,Heap.DictOf.new h⟩
def Gs:TE:=fun _ H Q=>∀p,H p=none→Q (.ref p) (upd H p (.dK []))
section
variable{X:Cx}{pos:Pos}
theorem Bt:PE X (.Dict [] [] pos) Gs:=fun pins s σ H Q I h=>wpAny_Dict_empty ⟨.ref s.heap.objs.size,_,I.laid (a:=s.heap.objs.size) (o:=.dK []) (t':=s.toks) (fun _ _ q=>Heap.get?_push_of_some _ q) (ab2 _) (uS s.heap I.big),rfl,h _ (I.hok.fresh (ab2 _))⟩
end
def rf:List (TE×TE)→St→Hp→(List (V×V)→Hp→Prop)→Prop
 |[],_,H,Q=>Q [] H
 |(tk,tv)::r,σ,H,Q=>tk σ H fun x H1=>tv σ H1 fun y H2=>rf r σ H2 fun ps H3=>Q ((x,y)::ps) H3
abbrev VV:List (V×V)→List (Value×Value)→Prop:=Paired fun p q=>bn p.1 q.1∧bn p.2 q.2
def YJ(X:Cx)(pos:Pos)(keys:List (Option Expr))(values:List Expr)(V1:List (TE×TE)):Prop:=
 ∀(pins:List (Addr×Obj))(s:Shared)(σ:St)(H:Hp)(Q:List (V×V)→Hp→Prop),Inv X pins σ H s→rf V1 σ H Q→
  wpAny (model X.prog X.w) X.A (evalPairs (pairTrees keys values X.env pos)) (fun vs s'=>∃ps H',Inv X pins σ H' s'∧VV ps vs∧Q ps H') X.xe s
theorem DX{X:Cx}{pos:Pos}:YJ X pos [] [] []:=fun pins s σ H Q I h=>pairTrees_nil_walk ⟨[],H,I,.nil,h⟩
theorem Bh{X:Cx}{pos:Pos}{k v:Expr}{ks:List (Option Expr)}{vs:List Expr}{tk tv:TE}{V1:List (TE×TE)}(hk:PE X k tk)(hv:PE X v tv)(hr:YJ X pos ks vs V1):
  YJ X pos (some k::ks) (v::vs) ((tk,tv)::V1):=fun pins s σ H Q I h=>
 pairTrees_cons_walk (I_ (hk pins s σ H _ I h) (by rintro u s1 ⟨x,H1,I1,rx,q1⟩;exact I_ (hv pins s1 σ H1 _ I1 q1) (by rintro w2 s2 ⟨y,H2,I2,ry,q2⟩;exact I_ (hr pins s2 σ H2 _ I2 q2) (by rintro ws s3 ⟨ps,H3,I3,rel,q3⟩;exact ⟨(x,y)::ps,H3,I3,.cons ⟨rx,ry⟩ rel,q3⟩))))
def gl(kvs more:List (Key×V)):List (Key×V):=more.foldl (fun acc kv=>iD acc kv.1 kv.2) kvs
theorem KV.merge:∀{more:List (Key×V)}{rs:List (Key×Value)}{kvs:List (Key×V)}{vs:List (Key×Value)},KV more rs→KV kvs vs→KV (gl kvs more) (merged vs rs):=by
 intro more rs kvs vs r;unfold KV at r
 induction r generalizing kvs vs with
 |nil=>intro q;exact q
 |@cons p q ps qs h t ih=>
  intro r0
  have e:KV (iD kvs p.1 p.2) (stored vs q.1 q.2):=by have:=r0.put p.1 h.2;rw[← h.1];exact this
  exact ih e
theorem jY:∀(more kvs:List (Key×V)),(gl kvs more).length≤kvs.length+more.length
 |[],kvs=>by show kvs.length≤kvs.length+0;omega
 |p::r,kvs=>by have h1:=jY r (iD kvs p.1 p.2);have h2:=jo kvs p.1 p.2;show(gl (iD kvs p.1 p.2) r).length≤_;rw[List.length_cons];omega
theorem pF{P:Program}{w:World}:∀{kvs:List (Key×V)}{ws:List (Value×Value)},VV (kvs.map fun kv=>(kV kv.1,kv.2)) ws→∃rs,Carries (bW P w) ws rs∧KV kvs rs
 |[],_,r=>by rw[List.map_nil]at r;cases r;exact⟨[],True.intro,.nil⟩
 |p::kvs,_,r=>by
  rw[List.map_cons]at r
  cases r with
  |@cons a b as bs h t=>obtain⟨rs,c,q⟩:=pF (P:=P) (w:=w) t;obtain⟨b1,b2⟩:=b;exact⟨(p.1,b2)::rs,⟨qF h.1,rfl,c⟩,.cons ⟨rfl,h.2⟩ q⟩
def IN(V1:List (TE×TE)):TE:=fun σ H Q=>∀p,H p=none→rf V1 σ (upd H p (.dK [])) fun ps H2=>H2 p=some (.dK [])∧∃kvs:List (Key×V),ps=kvs.map (fun kv=>(kV kv.1,kv.2))∧kvs.length≤15∧Q (.ref p) (upd H2 p (.dK (gl [] kvs)))
theorem Ed{X:Cx}{pos:Pos}{keys:List (Option Expr)}{values:List Expr}{V1:List (TE×TE)}(h:YJ X pos keys values V1)(Ue:keys.all (·.isSome)=true)(hl:keys.length=values.length)(h0:keys≠ [])
  (Xu:keys.length≤15):PE X (.Dict keys values pos) (IN V1):=by
 intro pins s σ H Q I q;have hn:=I.hok.fresh (ab2 s.heap.objs.size);have I1:=I.laid (a:=s.heap.objs.size) (o:=.dK []) (h':=s.heap.push { cls:=.type "dict",data:=.dict #[] }) (t':=s.toks) (fun _ _ q=>Heap.get?_push_of_some _ q) (ab2 _) (uS s.heap I.big);refine wpAny_Dict_walk (knd:=bW X.prog X.w) Ue hl h0 Xu (I_ (h pins _ σ _ _ I1 (q _ hn)) ?_);rintro ws s2 ⟨ps,H2,I2,rel,e,kvs,ep,lk,q2⟩;subst ep;obtain⟨rs,c,rk⟩:=pF (P:=X.prog) (w:=X.w) rel;obtain⟨z,hd,YW,r0,dd⟩:=FU I2.hok e
 cases r0
 refine⟨rs,c,dd,fun h' Wc hs=>⟨.ref s.heap.objs.size,_,?_,rfl,q2⟩⟩
 have hz:(gl [] kvs).length≤sizeLine:=by have h1:=jY kvs [];rw[List.length_nil]at h1;rw[sizeLine_eq];omega
 have he:∃q,h'.get? s.heap.objs.size=some q:=let⟨q,_,_,hq,_⟩:=Wc;⟨q,hq⟩;exact sR I2 (by rw[e];exact True.intro) hs he (wF hz hd (rk.merge .nil) Wc)
section
variable{X:Cx}{pins:List (Addr×Obj)}{σ:St}{H:Hp}{s:Shared}{a:Addr}{kvs:List (Key×V)}{A:Around}{E:Value→Shared→Prop}
theorem CF{Q:Value→Shared→Prop}(I:Inv X pins σ H s)(e:Rd H a (.dK kvs))(h:∀p s',H p=none→Inv X pins σ (upd H p (.dK kvs)) s'→Q (.ref p) s'):wpAny (model X.prog X.w) A (call (.type "dict") [.ref a]) Q E s:=by obtain⟨z,hd,vs,rel,dd⟩:=mV I.hok e;refine kt_call_dict hd dd (by rw[← rel.length];exact z) fun h' Wc hs=>?_;refine h _ _ (I.hok.fresh (ab2 _)) (I.laid (a:=s.heap.objs.size) (o:=.dK kvs) (t':=s.toks) (fun b q hq=>?_) (ab2 _) (wF z (beq_eq_false_iff_ne.mpr (Ne.symm (Nat.ne_of_lt I.big))) rel Wc));exact(hs.2 b (Nat.ne_of_lt (Heap.lt_size hq))).trans (Heap.get?_push_of_some _ hq)
end
end L2
namespace Att
open PySem PySem.W PySem.Calls PyProof.Rows
theorem nr{P:Params}{h:Heap}:∀(ns:List Int)(vs:List Value),WellAll P h vs (ns.map WData.int)→IntsAre vs ns:=by
 intro ns
 induction ns with
 |nil=>
  intro vs w;rw[List.map_nil]at w
  cases w
  exact .nil
 |cons n ns ih=>
  intro vs w;rw[List.map_cons]at w
  cases w with
  |cons a b=>
   cases a
   exact .cons _ _ (ih _ b)
theorem yO{l:OpenLaw}{n:Nat}(hn:l.most=some n){P:Params}{h:Heap}{args:List WData}{WK:List Value}
  (V8:l.row.toRowW.claim.pre args=true) (hwl:WellAll P h WK args):
  ∃a vs ns,WK= [Value.ref a]∧args= [WData.list (ns.map WData.int)]∧h.get? a=some { cls:=.type "list",data:=.seq vs.toArray }∧IntsAre vs ns∧ns.length≤n:=by
 have hsh:WShape.hasAll [] args [.list .int]=true:=(pre_splitW V8).1;have hc:l.pre.holds [] { args:=args }=true:=(pre_splitW V8).2;obtain⟨d,r,rfl,h1,h2⟩:=hasAllW_cons hsh;obtain rfl:=hasAllW_nil h2;obtain⟨xs,rfl,h3⟩:=hasW_list h1;obtain⟨ns,rfl⟩:=items_int h3
 have L_:ns.length≤n:=by
  unfold OpenLaw.pre at hc
  have h4:(WTm.not (.lt (.lit (.int (n:Int))) (.len (.arg 0)))).holds [] { args:=[.list (ns.map .int)] }=true:=by have h4:=(holds_andW hc).1;rw[hn]at h4;exact h4
  have h5:=condW_of h4 (w_not (w_lt w_lit (w_len_list (w_arg rfl))));rw[List.length_map]at h5;refine Nat.le_of_not_lt fun q=>?_;have q':(n:Int)<((ns.length:Nat):Int):=by omega
  first
   |(rw[decide_eq_true q']at h5;exact absurd h5 (by decide))
   |(simp at h5;omega)
 cases hwl with
 |cons w1 w2=>
  cases w2
  cases w1 with
  |list ho Ue=>exact⟨_,_,ns,rfl,rfl,ho,nr ns _ Ue,L_⟩
theorem zb(l:OpenLaw)(args:List WData):l.row.toRowW.claim.post args (.bool true) args=true:=
 postW_of (r:=l.row.toRowW) (X:=(true==true))
  (show WShape.has [] (.bool true) .bool=true by first|rfl|decide|simp[WShape.has,WShape.arms,WShape.armsAll])
  (show(WTm.eq .res (.lit (.bool true))).value [] { args:=args,res:=some (.bool true),after:=args }=some (.bool (true==true))from w_eq_bool (w_res rfl) w_lit) rfl
theorem TQ{l:OpenLaw}{n:Nat}{q:Program}{loose:List Str}{XP:(Str→Option Value)→Heap→Prop}{YP:World→Heap→Prop}{d:DefRec}
  (hn:l.most=some n) (Yq:d.params.defaults= [])
  (call:∀(w:World)(s₀ s₁:Shared)(mg mb:Str→Option Value)(fa:Addr)(o:Obj)(pm cd doc:Value)(a:Addr)(vs:List Value)(ns:List Int),
   Ground q loose [] XP w s₀ mg mb s₁.heap→YP w s₁.heap→
   s₁.heap.get? fa=some o→o.data=.func (docDef d.name d.params d.body d.scope pm cd doc)→s₁.heap.CodeRec cd d.name→mg d.name=some (.ref fa)→
   s₁.heap.get? a=some { cls:=.type "list",data:=.seq vs.toArray }→IntsAre vs ns→ns.length≤n→s₁.gens= #[]→
   codeAny (model l.prog w) callerA (.call (.ref fa) ⟨[.ref a],[]⟩) (fun r s'=>r=.ok (.ret (.bool true))∧OldK s₁.heap s'.heap∧s'.os=s₁.os∧AllBare s'.gens) s₁):
  WalkO q loose XP YP l.row.toRowW d [] (fun f vs=>PySem.call f vs):=by
 intro w s₀ s₁ mg mb G Y fa o pm cd doc dV kV ho hd RK hD Yi hg args WK as V8 adQ hrd hwl hlo;obtain rfl:dV=.none:=Dflts.none hD Yq;obtain rfl:kV=.none:=Dflts.noKw hD;obtain⟨a,vs,ns,rfl,rfl,W5,hints,L_⟩:=yO hn V8 hwl;refine enter_call (codeAny_mono (call w s₀ s₁ mg mb fa o pm cd doc a vs ns G Y ho (fd_plain hd) RK Yi W5 hints L_ hg) fun r s' hq=>?_);obtain⟨rfl,h2,h3,h4⟩:=hq;exact⟨.inl ⟨.bool true,.bool true,[],rfl,fun _=>rfl,.bool true,zb l _,fun _=>⟨List.Pairwise.nil,fun _ hm=>(nomatch hm)⟩⟩,h2,h3,h4⟩
end Att
namespace L2
open PySem PySem.Spec PyProof.Rows
theorem qc:∀{vs:List Value}{ns:List Int},IntsAre vs ns→aW (ns.map V.int) vs
 |_,_,.nil=>.nil
 |_,_,.cons n t h=>.cons ⟨t,rfl⟩ (qc h)
def Iv(H:Hp):Prop:=∀b,H b=none∨∃o xs,H b=some (.SQ o (.lst xs))
theorem Ce{P:Program}{w:World}{K:W.Frag}{mg mb:Str→Option Value}{CX:UW}{k:Nat}{fa a:Addr}{fd:FuncData}{x:Str}{sp:Sp}{s₁:Shared}{vs:List Value}{ns:List Int}
  (KX:K.In s₁.heap) (Xp:s₁.heap.Ns mainGlobals mg) (hb:s₁.heap.Ns builtinsNs mb) (hbb:∀x:Str,x≠"__name__"→mb x=bootBuiltins x) (aat:s₁.heap.NoLimit) (hg:s₁.gens= #[])
  (ha:s₁.heap.get? a=some { cls:=.type "list",data:=.seq vs.toArray }) (hi:IntsAre vs ns) (hl:ns.length≤sizeLine) (hr:bZ k callerA)
  (F:∀base:Heap,K.In base→base.Ns mainGlobals mg→cP P w K mg base CX k fa fd [x] sp) (Yt:∀(s:Shared)(u:Value),BindsTo s fd ⟨[u],[]⟩ [(x,u)])
  (Wo:∀H:Hp,Iv H→Og K H a (ns.map V.int)→sp [.ref a] H (fun v _=>v=.bl true) fun _ _ _=>False)
  (hCX:∀H e s',CX [] H s₁ (fun _ _ _=>False) e s'→False):
  codeAny (model P w) callerA (.call (.ref fa) ⟨[.ref a],[]⟩) (fun r s'=>r=.ok (.ret (.bool true))∧OldK s₁.heap s'.heap∧s'.os=s₁.os∧AllBare s'.gens) s₁:=by
 have rv:=qc hi;have Z6:=hi.length
 have core:∀H:Hp,Iv H→Og K H a (ns.map V.int)→Pq P w H s₁.heap→(∀b,H b≠none→b=a)→(H a≠none→K.lookup a=none)→
   codeAny (model P w) callerA (.call (.ref fa) ⟨[.ref a],[]⟩) (fun r s'=>r=.ok (.ret (.bool true))∧OldK s₁.heap s'.heap∧s'.os=s₁.os∧AllBare s'.gens) s₁:=by
  intro H hO hS hok hA hK;have Ux:∀{b:Addr}{o:Obj},s₁.heap.get? b=some o→H b=none→(sJ s₁.heap H).get? b=some o:=fun e n=>Cn e n
  have X7:∀{b:Addr}{o:Obj}{es:Array DictEntry}{ep:Nat},s₁.heap.get? b=some o→o.data=.dict es ep→H b=none:=fun{b o es ep} e d=>by
   cases q:H b with
   |none=>rfl
   |some u=>
    have e':b=a:=hA b (by rw[q];simp);subst e';rw[ha]at e;cases e;have d':Data.seq vs.toArray _=Data.dict es ep:=d
    cases d'
  have Y7:∀{b:Addr}{m:Str→Option Value},s₁.heap.Ns b m→(sJ s₁.heap H).Ns b m:=fun{b m} ⟨o,es,ep,e,d,r⟩=>⟨o,es,ep,Ux e (X7 e d),d,r⟩
  have hKb:K.In (sJ s₁.heap H):=fun b o e=>Ux (KX b o e) (by
   cases q:H b with
   |none=>rfl
   |some u=>have e':b=a:=hA b (by rw[q];simp);subst e';rw[hK (by rw[q];simp)]at e;cases e)
  have hM:Mod K mg (sJ s₁.heap H):=⟨hKb,Y7 Xp,⟨mb,Y7 hb,hbb⟩,let⟨mc,h1,h2⟩:=aat;⟨mc,Y7 h1,h2⟩⟩
  have e0:wR P w K mg (sJ s₁.heap H) callerA [] s₁ H:=⟨rfl,hM,fun b o e=>Eo e,Nat.le_of_eq (zD _ _),trivial,fun b hb=>absurd (show b∈([]:List Addr)from hb) (by simp),hok,.of_eq hg⟩
  refine codeAny_mono ((F _ hKb (Y7 Xp)).run callerA [] s₁ H ⟨[.ref a],[]⟩ [.ref a] [.ref a] _ _ hr e0 (Yt s₁ (.ref a)) (.cons rfl .nil) (Wo H hO hS)) fun r s' h=>?_
  cases r with
  |error e=>exact(hCX H e s' h).elim
  |ok fl=>
   cases fl with
   |next=>exact False.elim h
   |brk=>exact False.elim h
   |cont=>exact False.elim h
   |ret u=>
    obtain⟨v,H',os,bare,un,aao,r',q⟩:=h;have q':v=.bl true:=q;subst q';obtain rfl:u=Value.bool true:=r';refine⟨rfl,OldK.of_keep fun b o e=>?_,os,bare⟩
    cases q:H b with
    |none=>exact un.keep b o e q (by intro z;exact absurd (show b∈([]:List Addr)from z) (by simp)) (by simp)
    |some u=>
     rcases hO b with z|⟨ob,xs,z⟩
     ·rw[q]at z;cases z
     ·have z2:=un.N8 b ob _ z;obtain⟨e1,_⟩:=hok b _ z;obtain⟨e2,_⟩:=aao b _ z2;rw[e]at e1;cases e1;exact e2
 cases hk:K.lookup a with
 |some o=>
  have e:=KX a o hk;rw[ha]at e
  cases e
  refine core (fun _=>none) (fun _=>.inl rfl) (.inr ⟨_,vs.toArray,_,hk,rfl,rfl,rfl,by rw[List.size_toArray,Z6];exact hl,by simpa using rv⟩) (fun b u z=>by have z':(none:Option HO)=some u:=z;cases z') (fun b z=>absurd rfl z) fun z=>absurd rfl z
 |none=>
  refine core (fun b=>if b=a then some (.SQ { cls:=.type "list",data:=.seq vs.toArray } (.lst (ns.map V.int)))else none) (fun b=>?_) (.inl (.inr ⟨{ cls:=.type "list",data:=.seq vs.toArray },if_pos rfl⟩)) (fun b u z=>?_) (fun b z=>?_) fun _=>hk
  ·by_cases hb:b=a
   ·exact .inr ⟨_,_,if_pos hb⟩
   ·exact .inl (if_neg hb)
  ·by_cases hb:b=a
   ·have z':=(if_pos hb).symm.trans z
    cases z'
    subst hb;exact⟨ha,by rw[List.length_map];exact hl,vs,_,rv,ha⟩
   ·have z':=(if_neg hb).symm.trans z
    cases z'
  ·by_cases hb:b=a
   ·exact hb
   ·exact absurd (if_neg hb) z
theorem Dq{l:W.OpenLaw}{n k:Nat}{q:Program}{loose:List Str}{XP:(Str→Option Value)→Heap→Prop}{YP:World→Heap→Prop}{d:DefRec}{K:Params→W.Frag}{CX:World→UW}{sp:World→Sp}{x:Str}
  (hn:l.most=some n) (hn2:n≤sizeLine) (Yq:d.params.defaults= []) (hr:bZ k callerA)
  (hY:∀(w:World)(h:Heap),YP w h→(K w.params).In h)
  (F:∀(w:World)(mg:Str→Option Value)(fa:Addr)(h:Heap),(K w.params).In h→h.Ns mainGlobals mg→mg d.name=some (.ref fa)→
   ∃fd:FuncData,(∀(s:Shared)(u:Value),BindsTo s fd ⟨[u],[]⟩ [(x,u)])∧
    ∀base:Heap,(K w.params).In base→base.Ns mainGlobals mg→cP l.prog w (K w.params) mg base (CX w) k fa fd [x] (sp w))
  (Wo:∀(w:World)(H:Hp)(a:Addr)(ns:List Int),ns.length≤n→Iv H→Og (K w.params) H a (ns.map V.int)→sp w [.ref a] H (fun v _=>v=.bl true) fun _ _ _=>False)
  (hCX:∀(w:World)(H:Hp)(s:Shared)(e:Value)(s':Shared),CX w [] H s (fun _ _ _=>False) e s'→False):
  W.WalkO q loose XP YP l.row.toRowW d [] (fun f vs=>PySem.call f vs):=by
 refine Att.TQ hn Yq fun w s₀ s₁ mg mb fa o pm cd doc a vs ns G Y ho hd RK Yi W5 hints L_ hg=>?_;have KX:=hY w _ Y;obtain⟨fd,hb,hF⟩:=F w mg fa _ KX G.T.g Yi;exact Ce KX G.T.g G.T.b G.T.builtins G.T.nolimit hg W5 hints (Nat.le_trans L_ hn2) hr hF hb (fun H hO hS=>Wo w H a ns L_ hO hS) fun H e s'=>hCX w H s₁ e s'
noncomputable def EH(s:Stmt)(j:Nat):Stmt:=match s with
 |.ClassDef _ _ _ body _ _ _ _ _ _ _=>body.getD j (.Pass ⟨0,0,0,0⟩)
 |_=>.Pass ⟨0,0,0,0⟩
noncomputable def jI(s:Stmt):Arguments:=match s with
 |.FunctionDef _ a _ _ _ _ _ _ _ _=>a
 |_=> { posonlyargs:=[],args:=[],vararg:=none,kwonlyargs:=[],kw_defaults:=[],kwarg:=none,defaults:=[] }
noncomputable def cO(s:Stmt):List Stmt:=match s with
 |.FunctionDef _ _ b _ _ _ _ _ _ _=>b
 |_=> []
noncomputable def aK(s:Stmt):Scope:=match s with
 |.FunctionDef _ _ _ _ _ _ sc _ _ _=>sc
 |_=> { kind:=.function,names:=[],isGenerator:=false,isCoroutine:=false }
abbrev QT:UW:=fun _ _ _ _ _ _=>False
abbrev E0:XK:=fun _ _ _=>False
theorem Ju{X:Cx}:eQ QT X E0:=fun _ _ _ _ _ _ _ h=>h.elim
structure U9(K:W.Frag)(x C_:Str)(st:Stmt)(f:Addr)(fd:FuncData):Prop where
 ex:∃(oc:Value)(od:Option Addr)(kV doc pm:Value)(an:Option Addr)(K9 ct:Value)(Rz:Array (Option Value)),
  fd=W.fnOf x C_ (jI st) (cO st) (aK st) .none kV doc pm an K9 ct∧K.lookup f=some ⟨oc,od,.func fd,Rz⟩∧W.codeIn K K9 C_=true
 kp:W.keepIn K (.ref f)=true
section
variable{P:Program}{w:World}{K:W.Frag}{mg:Str→Option Value}{base:Heap}
theorem U9.ok{x C_:Str}{st:Stmt}{f:Addr}{fd:FuncData}{N ps:List Str}{k:Nat}{sp:Sp}(F:U9 K x C_ st f fd)(S:gM N ps (aK st))(len:∀vs H Q E,sp vs H Q E→vs.length=ps.length)
  (Vj:∀(K9:Value)(A:Around)(outer:List Env)(s:Shared)(H:Hp)(vs:List V)(Q:VK)(E:XK),bZ k (A.deeper (envOfC C_ (aK st) s.heap.objs.size f K9))→sp vs H Q E→
   ∃t,Sw (jy QT P w K mg base N C_ (aK st) f K9 A outer s H E).Wm (cO st) t∧t { nx:=fun _ H'=>Q .non H',rt:=Q } (gV N vs) H):cP P w K mg base QT (k+1) f fd ps sp:=by
 obtain⟨oc,od,kV,doc,pm,an,K9,ct,Rz,rfl,lk,RK⟩:=F.ex;refine Ct lk RK S len fun A outer s H vs Q E hr Wo=>?_;obtain⟨t,h,q⟩:=Vj K9 A outer s H vs Q E hr Wo;exact⟨t,h.Wm,q⟩
theorem U9.binds{x C_:Str}{st:Stmt}{f:Addr}{fd:FuncData}{ps:List Str}(F:U9 K x C_ st f fd)
  (h:∀(kV doc pm:Value)(an:Option Addr)(K9 ct:Value)(us:List Value),us.length=ps.length→bindArgs (W.fnOf x C_ (jI st) (cO st) (aK st) .none kV doc pm an K9 ct) ⟨us,[]⟩=pure (ps.zip us)):eF K fd ps []:=by
 obtain⟨oc,od,kV,doc,pm,an,K9,ct,Rz,rfl,lk,RK⟩:=F.ex;exact .all (h kV doc pm an K9 ct)
theorem Co{x C_:Str}{st:Stmt}{f:Addr}{oc:Value}{od an:Option Addr}{Rz:Array (Option Value)}{kV doc pm K9 ct:Value}(l:K.lookup f=some ⟨oc,od,.func (W.fnOf x C_ (jI st) (cO st) (aK st) .none kV doc pm an K9 ct),Rz⟩)
  (c:W.codeIn K K9 C_=true) (k:W.keepIn K (.ref f)=true):U9 K x C_ st f (W.fnOf x C_ (jI st) (cO st) (aK st) .none kV doc pm an K9 ct):=⟨⟨oc,od,kV,doc,pm,an,K9,ct,Rz,rfl,l,c⟩,k⟩
end
section
variable{X:Cx}
theorem pv(i:Nat){x:Str}{pos:Pos}(hN:X.N[i]? =some x:=by rfl)(hv:YG X.env.scope x:=by first|exact Or.inl rfl|exact Or.inr (Or.inl rfl)|exact Or.inr (Or.inr rfl))(hd:nD0 x:=by decide)
  (RK:(x==("__classdict__":Str))=false:=by decide):PE X (.Name x pos) (Dt i):=vQ hN hv hd RK
end
theorem sE{A B:Prop}(h:B):if false=true then A else B:=by rw[if_neg Bool.false_ne_true];exact h
theorem pV{A B:Prop}(h:A):if true=true then A else B:=by rw[if_pos rfl];exact h
def cD(H H':Hp):Prop:=∀b o,H b=some o→H' b=some o
theorem cD.refl(H:Hp):cD H H:=fun _ _ h=>h
theorem cD.trans{H H1 H2:Hp}(a:cD H H1)(b:cD H1 H2):cD H H2:=fun c o h=>b c o (a c o h)
theorem cD.free{H H':Hp}(e:cD H H'){l:Addr}(h:H' l=Option.none):H l=Option.none:=by
 cases q:H l with
 |none=>rfl
 |some o=>
  rw[e l o q]at h
  cases h
theorem cD.seq{K:W.Frag}{H H':Hp}{a:Addr}{xs:List V}(e:cD H H')(h:Og K H a xs):Og K H' a xs:=by
 rcases h with(h|⟨o,h⟩)|h
 ·exact .inl (.inl (e _ _ h))
 ·exact .inl (.inr ⟨o,e _ _ h⟩)
 ·exact .inr h
end L2
set_option maxHeartbeats 4000000
namespace L2
open PySem PySem.Spec PyProof.Rows
noncomputable def Its(x:Str):It:=⟨fun i _=>i<x.cps.size,fun i H v H'=>H'=H∧∃c,x.cps[i]? =some c∧v=.str ⟨#[c]⟩,fun i _=>i=x.cps.size⟩
theorem tX{P:Program}{w:World}{K:PySem.W.Frag}{tg:Expr}{ty:String}(it:Addr)(x:Str)(t:Tok)
  (W:∀A:Around,A.handled=none→Walks P w A it [it] [it] x.cps.size (SignAt x) (fun i h=>h.IsStrIter it ty x t i))
  (Vi:∀(A:Around)(i:Nat)(s:Shared)(Q:Value→Shared→Prop)(E:Value→Shared→Prop),s.heap.IsStrIter it ty x t i→Q (.ref it) s→wpAny (model P w) A (pyIter (.ref it)) Q E s)
  (Yg: ["enumerate","zip","dict_itemiterator","dict_reverseitemiterator","odict_iterator","itertools.zip_longest","itertools.pairwise"].contains ty=false):
  zW P w K tg (Its x) [it] it (fun i h=>h.IsStrIter it ty x t i) where
 mem:=by simp
 obj:=fun i h st b hb=>by
  have e:b=it:=by simpa using hb
  subst e;obtain⟨o,e,c,d⟩:=st;exact⟨o,e,fun v z=>by rw[d]at z;cases z⟩
 keep:=fun i h h' st k=>by obtain⟨o,e,r⟩:=st;exact⟨o,k it (by simp) o e,r⟩
 item:=by intro X hP hw hK hc i pins s σ H E I hf st hg;subst hP hw hK;obtain⟨f0,f1,f2,f3,f4,f5⟩:=hf it (by simp);refine(W X.A (I.ok.hd hc)).item i s _ _ hg st fun v h' tk hv T6 kk=>?_;obtain⟨c,u,hcx,rfl⟩:=hv;have I1:Inv X pins σ H { s with heap:=h',toks:=tk }:=I.turned (fun b o hb e=>kk b o (by simpa using hb) e) f0 f1 f3 f4 f5;obtain⟨o,e,cc,d⟩:=id T6;exact⟨_,rfl,yd (s:={ s with heap:=h',toks:=tk }) e cc d Yg ⟨.str ⟨#[c]⟩,H,I1,⟨u,rfl⟩,⟨rfl,c,hcx,rfl⟩,T6,fun b hb=>(hf b hb).1⟩⟩
 done:=by intro X hP hw hK hc i pins s σ H E I hf st hg;subst hP hw hK;obtain⟨f0,f1,f2,f3,f4,f5⟩:=hf it (by simp);have hg':i=x.cps.size:=hg;subst hg';exact(W X.A (I.ok.hd hc)).done s _ _ st fun h' tk kk=>⟨rfl,I.turned (fun b o hb e=>kk b o (by simpa using hb) e) f0 f1 f3 f4 f5⟩
 self:=Vi
section
variable{X:Cx}{tg:Expr}
def Me(ts:TE):TI:=fun σ H R=>ts σ H fun v H1=>∃x,v=.str x∧R (Its x) H1
theorem Hk{l:Expr}{tl:TE}(hl:PE X l tl):PI X tg l (Me tl):=by
 intro pins s σ H R I h;refine I_ (hl pins s σ H _ I h) ?_;rintro v s1 ⟨x,H1,I1,r1,q1⟩;obtain⟨z,e,q⟩:=q1;subst e;obtain⟨t,rfl⟩:=r1
 cases ha:z.cps.all (· <128)
 ·refine wpAny_pyIter_wide ha ?_;refine⟨s1.heap.objs.size,[s1.heap.objs.size],_,_,H1,rfl,I1.kept (t':=s1.toks) fun b o e=>Heap.get?_push_of_some _ e,tX _ z t (fun A hA=>Walks.strWide hA _ z t) (fun _ _ _ _ _ st h=>wpAny_pyIter_striter_wide st h) (by decide),⟨_,Heap.get?_push_size _ rfl,rfl,rfl⟩,fun b hb=>?_,q⟩;have e:b=s1.heap.objs.size:=by simpa using hb
  subst e;exact I1.Ug (ab2 _) (I1.hok.fresh (ab2 _))
 ·refine wpAny_pyIter_ascii ha ?_;refine⟨s1.heap.objs.size,[s1.heap.objs.size],_,_,H1,rfl,I1.kept (t':=s1.toks) fun b o e=>Heap.get?_push_of_some _ e,tX _ z t (fun A hA=>Walks.strAscii hA _ z t) (fun _ _ _ _ _ st h=>wpAny_pyIter_striter_ascii st h) (by decide),⟨_,Heap.get?_push_size _ rfl,rfl,rfl⟩,fun b hb=>?_,q⟩;have e:b=s1.heap.objs.size:=by simpa using hb
  subst e;exact I1.Ug (ab2 _) (I1.hok.fresh (ab2 _))
end
noncomputable def dP(cells:List (Str×Addr)):List (Str×NameKind)→List (Str×Addr)→List (Str×Addr)
 |[],cs=>cs
 |(n,k)::r,cs=>dP cells r (if k==.free then(match cells.lookup n with|some a=>(n,a)::cs|none=>cs)else cs)
theorem ka{scope:Scope}{env:Env}(h:∀n,(n,NameKind.free)∈scope.names→∃c,env.cells.lookup n=some c):closureFor scope env=pure (dP env.cells scope.names []):=by
 unfold closureFor
 have go:∀(l:List (Str×NameKind))(cs:List (Str×Addr)),(∀n,(n,NameKind.free)∈l→∃c,env.cells.lookup n=some c)→
   (forIn l cs fun x r=>if(x.2==NameKind.free)=true then do let a ← cellOf env x.1;pure (ForInStep.yield ((x.1,a)::r))else pure (ForInStep.yield r):Sem (List (Str×Addr)))=pure (dP env.cells l cs):=by
  intro l
  induction l with
  |nil=>intro cs _;rfl
  |cons x r ih=>
   intro cs hl;obtain⟨n,k⟩:=x;rw[List.forIn_cons];have hr:∀n,(n,NameKind.free)∈r→∃c,env.cells.lookup n=some c:=fun y hy=>hl y (List.mem_cons_of_mem _ hy)
   by_cases hk:k=.free
   ·subst hk;obtain⟨c,hc⟩:=hl n List.mem_cons_self;have e:cellOf env n=pure c:=by unfold cellOf;rw[hc]
    simp only[beq_self_eq_true,if_true,e,pure_bind,dP,hc];exact ih _ hr
   ·have hb:(k==NameKind.free)=false:=by simpa using hk
    simp only[hb,Bool.false_eq_true,if_false,pure_bind,dP];exact ih _ hr
 have q:=go scope.names [] h;simp only[bind_pure];exact q
theorem qR(cells:List (Str×Addr)):∀(l:List (Str×NameKind))(cs:List (Str×Addr))(p:Str×Addr),p∈dP cells l cs→p∈cs∨(cells.lookup p.1=some p.2∧(p.1,NameKind.free)∈l)
 |[],cs,p,h=>.inl h
 |(n,k)::r,cs,p,h=>by
  unfold dP at h;rcases qR cells r _ p h with q|⟨q1,q2⟩
  ·by_cases hk:k=.free
   ·subst hk;simp only[beq_self_eq_true,if_true]at q
    cases e:cells.lookup n with
    |none=>rw[e]at q;exact .inl q
    |some a=>
     rw[e]at q;rcases List.mem_cons.mp q with rfl|q
     ·exact .inr ⟨e,List.mem_cons_self⟩
     ·exact .inl q
   ·have hb:(k==NameKind.free)=false:=by simpa using hk
    simp only[hb,Bool.false_eq_true,if_false]at q;exact .inl q
  ·exact .inr ⟨q1,List.mem_cons_of_mem _ q2⟩
theorem qQ(cells:List (Str×Addr)):∀(l:List (Str×NameKind))(cs:List (Str×Addr))(p:Str×Addr),p∈cs→p∈dP cells l cs
 |[],_,_,h=>h
 |(n,k)::r,cs,p,h=>by
  unfold dP;refine qQ cells r _ p ?_
  split
  ·split
   ·exact List.mem_cons_of_mem _ h
   ·exact h
  ·exact h
theorem qS(cells:List (Str×Addr)){x:Str}{c:Addr}(hc:cells.lookup x=some c):∀(l:List (Str×NameKind))(cs:List (Str×Addr)),(x,NameKind.free)∈l→(x,c)∈dP cells l cs
 |(n,k)::r,cs,h=>by
  unfold dP;rcases List.mem_cons.mp h with e|h
  ·cases e
   refine qQ cells r _ _ ?_;simp only[beq_self_eq_true,if_true,hc];exact List.mem_cons_self
  ·exact qS cells hc r _ h
theorem jX{x:Str}{c:Addr}:∀{l:List (Str×Addr)},(x,c)∈l→∃c',l.lookup x=some c'
 |(y,d)::r,h=>by
  by_cases e:x=y
  ·subst e;exact⟨d,by simp[List.lookup_cons]⟩
  ·have hb:(x==y)=false:=by simpa using e
   rw[List.lookup_cons,hb];rcases List.mem_cons.mp h with q|q
   ·cases q;exact absurd rfl e
   ·exact jX q
theorem eN{cells:List (Str×Addr)}{l:List (Str×NameKind)}{x:Str}{c:Addr}(h:(dP cells l []).lookup x=some c):cells.lookup x=some c∧(x,NameKind.free)∈l:=by
 rcases qR cells l [] (x,c) (PySem.mem_of_lookup h)with q|q
 ·cases q
 ·exact q
theorem uW{cells:List (Str×Addr)}{l:List (Str×NameKind)}{x:Str}{c:Addr}(hc:cells.lookup x=some c)(h:(x,NameKind.free)∈l):(dP cells l []).lookup x=some c:=by obtain⟨c',e⟩:=jX (qS cells hc l [] h);rw[e,← hc,(eN e).1]
def YK(X:Cx)(ifs:List Expr)(t:TT):Prop:=
 ∀(pins:List (Addr×Obj))(s:Shared)(σ:St)(H:Hp)(Q:Bool→Hp→Prop),Inv X pins σ H s→t σ H Q→
  wpAny (model X.prog X.w) X.A (forIn ifs true fun c r=>if r=true then do let ok ← isTrue c X.env (eval c X.env);pure (ForInStep.yield ok)else pure (ForInStep.yield r)) (TP X pins σ Q) X.xe s
noncomputable def KR:TT:=fun _ H Q=>Q true H
theorem Ho{X:Cx}:YK X [] KR:=fun _ _ _ H _ I h=>wpAny_tests_nil ⟨H,I,h⟩
theorem Hn{X:Cx}{c:Expr}{t:TT}(h:PT X c t):YK X [c] t:=fun pins s σ H Q I hw=>wpAny_tests_one (h pins s σ H Q I hw)
noncomputable def cZ(X:Cx)(N:List Str)(scope:Scope)(cl:List (Str×Addr))(C:Addr)(ex:List Addr)(s:Shared)(H:Hp):Cx where
 prog:=X.prog
 w:=X.w
 K:=X.K
 mg:=X.mg
 base:=X.base
 A:=X.A
 N:=N
 s₀:=s
 H₀:=H
 env:=compEnvC scope cl C X.env
 outer:=X.stack
 stack:=X.stack
 ex:=ex
 fn:=fun _=>false
 calm:=true
 pn:=[]
 xe:=fun _ _=>False
structure eA(N:List Str)(Ve scope:Scope)(g8:List Nat)(x:Str)(M:List Str):Prop where
 kind:scope.kind=.function
 Td:∀y∈scope.names,y.2≠.cell
 names:∀y∈scope.names,y.2=.local→scope.names.lookup y.1=some .local
 var:scope.names.lookup x=some .local
 free:∀y∈scope.names,y.2=.free→Ve.names.lookup y.1=some .cell∨Ve.names.lookup y.1=some .free
 inN:M=x::g8.map fun i=>N.getD i ""
 cap:∀i∈g8,i<N.length∧scope.names.lookup (N.getD i "")=some .free
 nd:M.Nodup
noncomputable def sV(N:List Str)(Ve scope:Scope)(g8:List Nat)(x:Str)(M:List Str):Bool:=
 decide (scope.kind=.function)&&decide (∀y∈scope.names,y.2≠.cell)&&decide (∀y∈scope.names,y.2=.local→scope.names.lookup y.1=some .local)&&decide (scope.names.lookup x=some .local)
  &&decide (∀y∈scope.names,y.2=.free→Ve.names.lookup y.1=some .cell∨Ve.names.lookup y.1=some .free)&&decide (M=x::g8.map fun i=>N.getD i "")
  &&decide (∀i∈g8,i<N.length∧scope.names.lookup (N.getD i "")=some .free)&&decide M.Nodup
theorem eA.of{N:List Str}{Ve scope:Scope}{g8:List Nat}{x:Str}{M:List Str}(h:sV N Ve scope g8 x M=true):eA N Ve scope g8 x M:=by unfold sV at h;simp only[ab1]at h;obtain⟨⟨⟨⟨⟨⟨⟨a,b⟩,c⟩,d⟩,e⟩,f⟩,g⟩,i⟩:=h;exact⟨of_decide_eq_true a,of_decide_eq_true b,of_decide_eq_true c,of_decide_eq_true d,of_decide_eq_true e,of_decide_eq_true f,of_decide_eq_true g,of_decide_eq_true i⟩
noncomputable def gw(g8:List Nat)(σ:St):St:=g8.map fun i=>(σ[i]?).getD none
def Am(g8:List Nat)(wi:TI)(tt:TT)(te:TE):TE:=fun σ H Q=>wi σ H fun J H1=>∃W:Nat→Nat→List V→Hp→Prop,(∃m,W 0 m [] H1)∧
 ∀i m acc H,W i m acc H→(J.stop i H∧∀D,H D=none→Q (.ref D) (upd H D (.lst acc)))∨
  (J.go i H∧acc.length<sizeLine∧∀v H',J.WD i H v H'→tt (some v::gw g8 σ) H' fun b H2=>if b=true then te (some v::gw g8 σ) H2 fun y H3=>∃m',m'<m∧W (i+1) m' (acc++ [y]) H3 else∃m',m'<m∧W (i+1) m' acc H2)
theorem Pq.adopt{P:Program}{w:World}{H:Hp}{h:Heap}{a:Addr}{o:HO}(x:Pq P w H h)(hn:H a=none)(new:bE P w (upd H a o) h a o):Pq P w (upd H a o) h:=fun b u e=>by
 by_cases hb:b=a
 ·subst hb;rw[aG]at e;cases e;exact new
 ·rw[ai hb]at e;exact(x b u e).stay (fun c v _ q=>q) (fun c q=>by rw[ai (ar q hn)];exact q) fun c xs q=>by rw[ai (ar q hn)];exact q
theorem iw{env:Env}{x:Str}:∀{names:List (Str×NameKind)},(∀y∈names,y.2≠.cell)→∀{k:NameKind},
  (names.map fun(n,k)=>if(k==NameKind.free&&env.scope.kind==.function&&env.kindOf n==some .cell)then(n,NameKind.cell)else(n,k)).lookup x=some k→k=.cell∨k=.free→(x,NameKind.free)∈names
 |[],_,_,h,_=>by simp at h
 |(n,k0)::r,hn,k,h,hk=>by
  have ih:= @iw env x r (fun y hy=>hn y (List.mem_cons_of_mem _ hy)) k;rw[List.map_cons]at h
  by_cases hc:(k0==NameKind.free&&env.scope.kind==.function&&env.kindOf n==some .cell)=true
  ·have h2:List.lookup x ((n,NameKind.cell)::r.map fun(n,k)=>if(k==NameKind.free&&env.scope.kind==.function&&env.kindOf n==some .cell)then(n,NameKind.cell)else(n,k))=some k:=by have q:=h;simp only[hc,if_true]at q;exact q
   have hf:k0=.free:=by
    have z:(k0==NameKind.free)=true:=by
     cases e:(k0==NameKind.free)with
     |true=>rfl
     |false=>rw[e]at hc;simp at hc
    simpa using z
   by_cases e:x=n
   ·subst e;subst hf;exact List.mem_cons_self
   ·have hb:(x==n)=false:=by simpa using e
    rw[List.lookup_cons,hb]at h2;exact List.mem_cons_of_mem _ (ih h2 hk)
  ·have h2:List.lookup x ((n,k0)::r.map fun(n,k)=>if(k==NameKind.free&&env.scope.kind==.function&&env.kindOf n==some .cell)then(n,NameKind.cell)else(n,k))=some k:=by have q:=h;simp only[hc,if_false]at q;exact q
   by_cases e:x=n
   ·subst e;rw[List.lookup_cons,beq_self_eq_true]at h2;have e2:k0=k:=Option.some.inj h2;subst e2;rcases hk with z|z
    ·exact absurd z (hn (x,k0) List.mem_cons_self)
    ·subst z;exact List.mem_cons_self
   ·have hb:(x==n)=false:=by simpa using e
    rw[List.lookup_cons,hb]at h2;exact List.mem_cons_of_mem _ (ih h2 hk)
theorem kW{env:Env}{x:Str}:∀{names:List (Str×NameKind)},names.lookup x=some .free→
  (names.map fun(n,k)=>if(k==NameKind.free&&env.scope.kind==.function&&env.kindOf n==some .cell)then(n,NameKind.cell)else(n,k)).lookup x=some .cell∨
  (names.map fun(n,k)=>if(k==NameKind.free&&env.scope.kind==.function&&env.kindOf n==some .cell)then(n,NameKind.cell)else(n,k)).lookup x=some .free
 |[],h=>by simp at h
 |(n,k)::r,h=>by
  have ih:= @kW env x r;show List.lookup x ((if(k==NameKind.free&&env.scope.kind==.function&&env.kindOf n==some .cell)=true then(n,NameKind.cell)else(n,k))::_)=_∨List.lookup x ((if(k==NameKind.free&&env.scope.kind==.function&&env.kindOf n==some .cell)=true then(n,NameKind.cell)else(n,k))::_)=_
  by_cases hc:(k==NameKind.free&&env.scope.kind==.function&&env.kindOf n==some .cell)=true
  ·rw[if_pos hc]
   cases hx:x==n with
   |true=>left;simp[List.lookup_cons,hx]
   |false=>simp only[List.lookup_cons,hx]at h ⊢;exact ih h
  ·rw[if_neg hc]
   cases hx:x==n with
   |true=>
    simp only[List.lookup_cons,hx]at h
    right;simp[List.lookup_cons,hx,h]
   |false=>simp only[List.lookup_cons,hx]at h ⊢;exact ih h
theorem lO{prog:Program}{w:World}{A:Around}{R:Result→Shared→Prop}{s:Shared}{elt target iter:Expr}{ifs:List Expr}{scope:Scope}{pos:Pos}{it acc:Value}{env:Env}(I:Nat→Shared→Prop)
  (turn:∀n s,I n s→wpAny (model prog w) A (pyNext it) (fun r s₁=>match r with
   |none=>R (.ok .next) s₁
   |some v=>wpAny (model prog w) A (letOwnedTupleGo target it v) (fun _ s₂=>wpAny (model prog w) A (assign target env v) (fun _ s₃=>
     wpAny (model prog w) A (forIn ifs true fun c r=>if r=true then do let ok ← isTrue c env (eval c env);pure (ForInStep.yield ok)else pure (ForInStep.yield r)) (fun ok s₄=>
      if ok=true then wpAny (model prog w) A (eval elt env) (fun x s₅=>wpAny (model prog w) A (call (.builtin "list.append") [acc,x]) (fun _ s₆=>∃m,m<n∧I m s₆) (fun _ _=>False) s₅) (fun _ _=>False) s₄
      else∃m,m<n∧I m s₄) (fun _ _=>False) s₃) (fun _ _=>False) s₂) (fun _ _=>False) s₁) (fun _ _=>False) s)
  (n:Nat) (h:I n s):
  codeAny (model prog w) A (.compLoop (.ListComp elt [⟨target,iter,ifs,0⟩] scope pos) 0 it acc env) R s:=by
 refine codeAny_loop rfl I (fun n s hI=>?_) n h;show wpAny _ A ((compTurn (.ListComp elt [⟨target,iter,ifs,0⟩] scope pos) 0 it acc env).onRaise (fun x=>do noteFrame x env;theTreesLotGoes x)) _ _ s;refine wpAny_noted ?_;rw[compTurn_list];refine wpAny_bind (wpAny_standAt (wpAny_bind (wpAny_mono (turn n s hI) (fun r s₁ h₁=>?_) fun _ _ h'=>h'.elim)))
 cases r with
 |none=>exact wpAny_pure h₁
 |some v=>
  refine wpAny_bind (wpAny_mono h₁ (fun _ s₂ h₂=>wpAny_bind (wpAny_mono h₂ (fun _ s₃ h₃=>wpAny_bind (wpAny_mono h₃ (fun ok s₄ h₄=>?_) fun _ _ h'=>h'.elim)) fun _ _ h'=>h'.elim)) fun _ _ h'=>h'.elim)
  cases ok with
  |false=>exact wpAny_pure ⟨rfl,h₄⟩
  |true=>exact wpAny_bind (wpAny_bind (wpAny_mono h₄ (fun x s₅ h₅=>wpAny_bind (wpAny_mono h₅ (fun _ s₆ h₆=>wpAny_pure (wpAny_pure ⟨rfl,h₆⟩)) fun _ _ h'=>h'.elim)) fun _ _ h'=>h'.elim))
section
variable{X:Cx}
theorem Inv.cap{pins:List (Addr×Obj)}{σ:St}{H:Hp}{s:Shared}{i:Nat}{y:Str}{v:V}(I:Inv X pins σ H s)(hy:X.N[i]? =some y)(hv:σ[i]? =some (some v))(hk:X.env.kindOf y=some .cell∨X.env.kindOf y=some .free):
  ∃u c,bn v u∧X.env.cells.lookup y=some c∧s.heap.IsCell c (some u):=by
 obtain⟨m,hn,hl⟩:=I.loc;obtain⟨u,r,l⟩:=hl i y v hy hv (by rcases hk with h|h;exact .inr (.inl h);exact .inr (.inr h));rcases l with⟨h1,_⟩|⟨_,c,hc,z⟩
 ·rcases hk with h|h<;>(rw[h1]at h;cases h)
 ·exact⟨u,c,r,hc,z⟩
theorem pD{M:List Str}{scope:Scope}{g8:List Nat}{x:Str}{pins:List (Addr×Obj)}{σ:St}{H:Hp}{s s4:Shared}{fp:List Addr}{C:Addr}{m:Str→Option Value}
  (S:eA X.N X.env.scope scope g8 x M) (O7:X.calm=true) (I:Inv X pins σ H s) (hf:∀b∈fp,jT X pins H b) (hfo:∀b∈fp,∃o,s.heap.get? b=some o)
  (hC:s.heap.objs.size≤C) (V9:s4.os=s.os) (hg:AllBare s4.gens) (keep:∀b o,s.heap.get? b=some o→s4.heap.get? b=some o) (hn:s4.heap.Ns C m):
  Inv (cZ X M scope (dP X.env.cells scope.names []) C fp s H) [] (none::gw g8 σ) H s4:=by
 have TJ:∀y c,(dP X.env.cells scope.names []).lookup y=some c→X.env.cells.lookup y=some c:=fun y c h=>(eN h).1
 have fresh:∀b o,s.heap.get? b=some o→b≠C:=fun b o e z=>by subst z;exact absurd (Nat.lt_of_lt_of_le (Heap.lt_size e) hC) (Nat.lt_irrefl _)
 have ok:(cZ X M scope (dP X.env.cells scope.names []) C fp s H).Ok:=by
  refine⟨I.ok.mod,?_,I.ok.glob,I.ok.blt,hC,fun y z c h1 h2=>I.ok.inj y z c (TJ _ _ h1) (TJ _ _ h2),fun y hy=>?_,fun y c h _=>Bool.noConfusion h,fun _=>I.ok.hd O7,I.ok.frames,.inl rfl,fun b hb=>⟨?_,fun y c h z=>?_⟩,
   I.bs,Nat.le_trans I.ok.U7 I.sz,fun b o e hb=>?_,fun b hb hs=>?_,I.stack,I.Pa⟩
  ·exact S.kind
  ·have hm:(y,NameKind.free)∈scope.names:=by
    rcases hy with h|h
    ·exact iw S.Td h (.inl rfl)
    ·exact iw S.Td h (.inr rfl)
   obtain⟨c,hc⟩:=I.ok.has y (S.free _ hm rfl);exact⟨c,uW hc hm⟩
  ·obtain⟨o,e⟩:=hfo b hb;exact fresh b o e
  ·exact(hf b hb).2.2.2.2.1 y c (TJ y c h) z
  ·rcases(hf b hb).2.2.2.1 with z|z
   ·exact I.ok.Tt b o e z
   ·exact absurd (Nat.lt_of_lt_of_le (Heap.lt_size e) (Nat.le_trans I.ok.U7 z)) (Nat.lt_irrefl _)
  ·rcases List.mem_cons.mp (I.RZ b hs)with z|z
   ·exact(hf b hb).2.1 z
   ·exact(hf b hb).2.2.1 z
 refine⟨ok,V9,hg,Un.kept keep,⟨m,hn,fun i y v h1 h2 h3=>?_⟩,fun y c h=>?_,I.hok.fresh hC,fun y c h=>I.Ol y c (TJ y c h),fun p hp=>absurd (show p∈([]:List (Addr×Obj))from hp) (by simp),I.hok.kept keep,?_⟩
 ·have Uv:M[i]? =some y:=h1
  cases i with
  |zero=>simp at h2
  |succ j=>
   rw[S.inN]at Uv;simp only[List.getElem?_cons_succ,gw,List.getElem?_map]at Uv h2
   cases e:g8[j]? with
   |none=>rw[e]at Uv;simp at Uv
   |some k=>
    rw[e]at Uv h2;simp only[Option.map_some,Option.some.injEq]at Uv h2;obtain⟨c1,c2⟩:=S.cap k (List.mem_of_getElem? e);rw[Uv]at c2
    have hN:X.N[k]? =some y:=by rw[← Uv,List.getD_eq_getElem?_getD,List.getElem?_eq_getElem c1];rfl
    have hσ:σ[k]? =some (some v):=by
     cases q:σ[k]? with
     |none=>rw[q]at h2;cases h2
     |some z=>rw[q]at h2;simpa using h2
    obtain⟨u,c,r,hc,z⟩:=I.cap hN hσ (S.free (y,.free) (PySem.mem_of_lookup c2) rfl);obtain⟨oc,ho,hd⟩:=z;exact⟨u,r,.inr ⟨kW c2,c,uW hc (PySem.mem_of_lookup c2),oc,keep _ _ ho,hd⟩⟩
 ·obtain⟨v,oc,ho,hd⟩:=I.cell y c (TJ y c h);exact⟨v,oc,keep _ _ ho,hd⟩
 ·show _=M.length;rw[S.inN];simp[gw]
theorem qO{M:List Str}{scope:Scope}{cl:List (Str×Addr)}{pins M5:List (Addr×Obj)}{σ σ':St}{H H':Hp}{s s':Shared}{fp:List Addr}{C D:Addr}{Xf:Heap}{acc:List V}{its:List Value}
  (I:Inv X pins σ H s) (hf:∀b∈fp,jT X pins H b) (I':Inv (cZ X M scope cl C fp s H) M5 σ' H' s') (hC:s.heap.objs.size≤C) (hD:s.heap.objs.size≤D) (U6:D≠C) (hDn:H' D=none)
  (hl:s'.heap.PlainList D its.toArray) (rv:aW acc its) (hz:acc.length≤sizeLine) (sb:Heap.SameBut C s'.heap Xf):
  Inv X pins σ (upd H' D (.lst acc)) { s' with heap:=Xf }:=by
 have below:∀b o,s.heap.get? b=some o→b≠C∧b≠D:=fun b o e=>⟨fun z=>absurd (Nat.lt_of_lt_of_le (Heap.lt_size e) (by rw[z];exact hC)) (Nat.lt_irrefl _),fun z=>absurd (Nat.lt_of_lt_of_le (Heap.lt_size e) (by rw[z];exact hD)) (Nat.lt_irrefl _)⟩
 have hHD:H D=none:=I.hok.fresh hD;have B:Un (frs X.stack) fp H H' s.heap s'.heap:=I'.base;have hHC:H' C=none:=I'.free;obtain⟨n,el⟩:=hl
 have ok1:Pq X.prog X.w H' Xf:=fun b u e=>by
  refine(show bE X.prog X.w H' s'.heap b u from I'.hok b u e).stay (fun c v hc q=>(sb.2 c ?_).trans q) (fun _ q=>q) fun _ _ q=>q;rcases hc with z|z
  ·rw[z];intro z2;rw[z2,hHC]at e;cases e
  ·intro z2;rw[z2,hHC]at z;cases z
 have ok2:Pq X.prog X.w (upd H' D (.lst acc)) Xf:=ok1.adopt hDn ⟨hz,its,n,rv,(sb.2 D U6).trans el⟩
 have U:Un (frs X.stack) fp H (upd H' D (.lst acc)) s.heap Xf:=by
  refine⟨fun b o q n hb hx=>(sb.2 b (below b o q).1).trans (B.keep b o q n hb hx),fun b o q n hb hx=>?_,fun b o q n hx=>?_,fun b o q hx=>?_,fun b xs q=>?_,fun b o u q=>?_,fun b ps q=>?_⟩
  ·obtain⟨sl,e⟩:=B.slot b o q n hb hx;exact⟨sl,(sb.2 b (below b o q).1).trans e⟩
  ·rw[ai (below b o q).2];exact B.free b o q n hx
  ·obtain⟨o',e⟩:=B.there b o q hx;exact⟨o',(sb.2 b (below b o q).1).trans e⟩
  ·rw[ai (ar q hHD)];exact B.tups b xs q
  ·rw[ai (ar q hHD)];exact B.N8 b o u q
  ·rw[ai (ar q hHD)];exact B.QF b ps q
 have os:s'.os=s.os:=I'.os;exact I.call' (s':={ s' with heap:=Xf }) (ch:=fp) os U ok2 I'.bare fun b hb=>⟨(hf b hb).2.2.2.1,(hf b hb).2.1,(hf b hb).2.2.2.2.1,(hf b hb).2.2.2.2.2⟩
theorem xG{elt iter:Expr}{x:Str}{px:Pos}{ifs:List Expr}{scope:Scope}{pos:Pos}{wi:TI}{tt:TT}{te:TE}{M:List Str}(g8:List Nat)(O7:X.calm=true)(S:eA X.N X.env.scope scope g8 x M)
  (hi:PI X (.Name x px) iter wi) (ht:∀cl C ex s H,YK (cZ X M scope cl C ex s H) ifs tt) (he:∀cl C ex s H,PE (cZ X M scope cl C ex s H) elt te)
  (hs:∀y,foldedSetIterable iter X.env y=pure y:=by intro _;rfl):PE X (.ListComp elt [⟨.Name x px,iter,ifs,0⟩] scope pos) (Am g8 wi tt te):=by
 intro pins s σ H Q I h;rw[eval_ListComp];refine wpAny_comprehension_free (use:=none) rfl hs (ka fun n hn=>I.ok.has n (S.free _ hn rfl)) S.kind S.names ?_;refine I_ (hi pins s σ H _ I h) fun v s1 h1=>I_ h1 fun Zf s2 h2=>?_;obtain⟨it,fp,tn,J,H2,e,I2,T,V3,f2,W,⟨m0,w0⟩,turn⟩:=h2;subst e;refine wpAny_newObj_type (wpAny_newFunctionEnv S.Td (by intro y hy;simp at hy) (fun h₁ Ud Te=>?_) S.kind);dsimp only at Ud Te ⊢;generalize hH2:s2.heap.push { cls:=.type "list",dict:=none,data:=.seq ([]:List Value).toArray }=P2 at Ud Te ⊢;have Xe:P2.objs.size=s2.heap.objs.size+1:=by rw[← hH2,Heap.size_push]
 have U6:s2.heap.objs.size≠P2.objs.size:=by rw[Xe];exact Nat.ne_of_lt (Nat.lt_succ_self _)
 have SN:s2.heap.objs.size≤P2.objs.size:=by rw[Xe];exact Nat.le_succ _
 have below:∀b,b<s2.heap.objs.size→b≠P2.objs.size:=fun b hb=>by rw[Xe];exact Nat.ne_of_lt (Nat.lt_succ_of_lt hb)
 have old:∀b o,s2.heap.get? b=some o→h₁.get? b=some o:=fun b o e=>Te.extBut b o (below b (Heap.lt_size e)) (Heap.get?_push_of_some _ (hH2▸Heap.get?_push_of_some _ e));have Xb:h₁.PlainList s2.heap.objs.size #[]:=⟨_,Te.extBut _ _ U6 (Heap.get?_push_of_some _ (hH2▸Heap.get?_push_size _ rfl))⟩
 have Xi:∀b∈fp,∃o,s2.heap.get? b=some o∧∀v,o.data≠.cell v:=T.obj 0 _ V3
 have Yy:s2.heap.objs.size∉fp:=fun hb=>by obtain⟨o,e,_⟩:=Xi _ hb;exact absurd (Heap.lt_size e) (Nat.lt_irrefl _)
 have hDs:∀{c:Addr}{o:Obj},s2.heap.get? c=some o→c≠s2.heap.objs.size:=fun e=>Nat.ne_of_lt (Heap.lt_size e)
 let Y:Cx:=cZ X M scope (dP X.env.cells scope.names []) P2.objs.size fp s2 H2
 have I4:Inv Y [] (none::gw g8 σ) H2 { s2 with heap:=h₁,toks:=s2.toks+([]:List (Str×Value)).length }:=
  pD S O7 I2 f2 (fun b hb=>let⟨o,e,_⟩:=Xi b hb;⟨o,e⟩) SN rfl I2.bare old Ud
 have fpY:∀{M5:List (Addr×Obj)}{H':Hp},(∀b∈fp,H' b=none)→(∀p∈M5,p.1∉fp)→∀b∈fp,jT Y M5 H' b:=fun{M5 H'} hn hp b hb=>by
  obtain⟨o,e,_⟩:=Xi b hb;refine⟨hn b hb,below b (Heap.lt_size e),fun hs=>?_,.inl hb,fun y c h=>(f2 b hb).2.2.2.2.1 y c (eN h).1,fun p hp' z=>hp p (show p∈M5 from by have q:p∈ []++M5:=hp';simpa using q) (by rw[z];exact hb)⟩;rcases List.mem_cons.mp (I2.RZ b hs)with z|z
  ·exact(f2 b hb).2.1 z
  ·exact(f2 b hb).2.2.1 z
 have Dfs:s2.heap.objs.size∉Y.fs:=fun hs=>by obtain⟨_,o,ho,_⟩:=I2.stack.mem hs;exact absurd (Heap.lt_size ho) (Nat.lt_irrefl _)
 have Vp:∀y c,Y.env.cells.lookup y=some c→c≠s2.heap.objs.size:=fun y c h z=>by obtain⟨v,q⟩:=I2.cell y c (eN h).1;rw[z]at q;exact absurd q.lt (Nat.lt_irrefl _)
 have loop:∀s₃:Shared,s₃={ s2 with heap:=h₁,toks:=s2.toks+([]:List (Str×Value)).length }→
   codeAny (model X.prog X.w) X.A (.compLoop (.ListComp elt [⟨.Name x px,iter,ifs,0⟩] scope pos) 0 (.ref it) (.ref s2.heap.objs.size) (compEnvC scope (dP X.env.cells scope.names []) P2.objs.size X.env))
    (compPost (model X.prog X.w) X.A X.xe none (EP X pins σ Q) (.ref s2.heap.objs.size) P2.objs.size) s₃:=by
  rintro s₃ rfl
  refine lO (fun n s'=>∃i acc H' its,Inv Y [] (none::gw g8 σ) H' s'∧tn i s'.heap∧(∀b∈fp,H' b=none)∧H' s2.heap.objs.size=none∧s'.heap.PlainList s2.heap.objs.size its∧aW acc its.toList∧acc.length≤sizeLine∧W i n acc H') ?_ m0
   ⟨0,[],H2, #[],I4,T.keep 0 _ _ V3 (fun b hb o e=>old b o e),fun b hb=>(f2 b hb).1,I2.hok.fresh (ab2 _),Xb,.nil,Nat.zero_le _,w0⟩
  rintro n s5 ⟨i,acc,H5,its,I5,V2,Xg,Xd,hl5,V4,Ye,w5⟩
  have Ys:Y.calm=true:=rfl;obtain⟨nn,el5⟩:=hl5
  have Xm:Inv Y [(s2.heap.objs.size,{ cls:=.type "list",data:=.seq its nn })] (none::gw g8 σ) H5 s5:=I5.NQ fun p hp=>by
   have e:p=(s2.heap.objs.size,{ cls:=.type "list",data:=.seq its nn }):=by simpa using hp
   subst e;exact⟨el5,Xd,U6,Dfs,fun v z=>by cases z⟩
  have Xh:∀{H':Hp},(∀b∈fp,H' b=none)→∀b∈fp,jT Y [(s2.heap.objs.size,{ cls:=.type "list",data:=.seq its nn })] H' b:=fun hn=>fpY hn fun p hp=>by
   have e:p=(s2.heap.objs.size,{ cls:=.type "list",data:=.seq its nn }):=by simpa using hp
   subst e;exact Yy
  have WR:aW acc its.toList:=V4;rcases turn i n acc H5 w5 with⟨stop,qn⟩|⟨go,SM,step⟩
  ·refine I_ (T.done Y rfl rfl rfl Ys i _ s5 _ H5 (fun _ _=>False) Xm (Xh Xg) V2 stop) ?_;rintro r s6 ⟨hr,I6⟩;subst hr;obtain⟨m6,hn6,_⟩:=id I6.loc;obtain⟨p1,p2,_⟩:=I6.pin (s2.heap.objs.size,{ cls:=.type "list",data:=.seq its nn }) (by simp);refine⟨m6,hn6,fun h' sb=>⟨.ref s2.heap.objs.size,upd H5 s2.heap.objs.size (.lst acc),?_,rfl,qn _ Xd⟩⟩;exact qO (its:=its.toList) I2 f2 I6 SN (ab2 _) U6 Xd (show s6.heap.PlainList s2.heap.objs.size its.toList.toArray from⟨nn,by rw[Array.toArray_toList];exact p1⟩) WR Ye sb
  ·refine I_ (T.item Y rfl rfl rfl Ys i _ s5 _ H5 (fun _ _=>False) Xm (Xh Xg) V2 go) ?_;rintro r s6 ⟨u,hr,h6⟩;subst hr;refine I_ h6 ?_;rintro _ s7 ⟨v7,H7,I7,r7,y7,WM,fr7⟩;have I7':=I7.pinned (Xh fr7) (T.obj _ _ WM);have hg:PG Y (.Name x px) (ye 0):=nJ (X:=Y) (i:=0) S.nd (by show M[0]? =some x;rw[S.inN];rfl) (Or.inl (lookup_relabel_local S.var)) (.inr (lookup_relabel_local S.var));refine I_ (hg _ s7 _ H7 v7 u (fun σ8 H8=>σ8=some v7::gw g8 σ∧H8=H7) I7' r7 ⟨rfl,rfl⟩) ?_;rintro _ s8 ⟨σ8,H8,I8,e8,e8'⟩;subst e8 e8';refine I_ (ht _ _ _ _ _ _ s8 _ _ _ I8 (step v7 _ y7)) ?_;rintro b s9 ⟨H9,I9,q9⟩
   have tail:∀{σ':St}{H':Hp}{s':Shared},Inv Y ([(s2.heap.objs.size,{ cls:=.type "list",data:=.seq its nn })]++mx fp s7.heap) σ' H' s'→
     tn (i+1) s'.heap∧(∀b∈fp,H' b=none)∧s'.heap.get? s2.heap.objs.size=some { cls:=.type "list",data:=.seq its nn }∧H' s2.heap.objs.size=none:=fun{σ' H' s'} J=>by
    refine⟨T.keep _ _ _ WM fun b hb o e=>(J.pin (b,o) (List.mem_append_right _ (List.mem_append_right _ (eK hb e)))).1,fun b hb=>?_,?_⟩
    ·obtain⟨o,e,d⟩:=T.obj _ _ WM b hb;exact(J.pin (b,o) (List.mem_append_right _ (List.mem_append_right _ (eK hb e)))).2.1
    ·have p:=J.pin (s2.heap.objs.size,{ cls:=.type "list",data:=.seq its nn }) (by simp);exact⟨p.1,p.2.1⟩
   cases b with
   |false=>
    obtain⟨m',hm,w9⟩:=(show∃m',m'<n∧W (i+1) m' acc H9 from by simpa using q9)
    obtain⟨t1,t2,t3,t4⟩:=tail I9;refine⟨m',hm,i+1,acc,H9,its,?_,t1,t2,t4,⟨nn,t3⟩,V4,Ye,w9⟩
    exact(I9.NQ (M5:=[]) fun p hp=>absurd hp (by simp)).weak (by simp) fun j w z=>by
     cases j with
     |zero=>simp at z
     |succ j=>simpa using z
   |true=>
    have ZV:te (some v7::gw g8 σ) H9 fun y H3=>∃m',m'<n∧W (i+1) m' (acc++ [y]) H3:=by simpa using q9
    refine I_ (he _ _ _ _ _ _ s9 _ _ _ I9 ZV) ?_;rintro ZK XM ⟨y,YQ,YM,r10,m',hm,YT⟩;obtain⟨t1,t2,t3,t4⟩:=tail YM;have lz:its.size=acc.length:=by rw[V4.length];simp
    refine wpAny_list_append_plain ⟨nn,t3⟩ (fun h' Yl XH=>?_) (by omega)
    have I11:Inv Y [] (some v7::gw g8 σ) YQ { XM with heap:=h',toks:=XM.toks }:=
     (YM.NQ (M5:=[]) fun p hp=>absurd hp (by simp)).turned (it:=s2.heap.objs.size) (fun b o hb e=>(XH.2 b hb).trans e) t4 U6 (.inr (ab2 _)) Vp (fun p hp=>absurd (show p∈([]:List (Addr×Obj))from hp) (by simp))
    refine⟨m',hm,i+1,acc++ [y],YQ,its.push ZK,?_,T.keep _ _ _ t1 (fun b hb o e=>(XH.2 b (fun z=>Yy (z▸hb))).trans e),t2,t4,Yl,?_,?_,YT⟩
    ·exact I11.weak (by simp) fun j w z=>by
      cases j with
      |zero=>simp at z
      |succ j=>simpa using z
    ·rw[Array.toList_push];exact V4.append (.cons r10 .nil)
    ·rw[List.length_append,List.length_singleton];omega
 exact codeAny_compStart_list (loop _ rfl) (T.self X.A 0 _ _ _ (T.keep 0 _ _ V3 (fun b hb o e=>old b o e)) (loop _ rfl))
end
section
variable{X:Cx}
def Jb:V→Option Int→Option Int→Hp→VK→Prop:=fun x lo hi H Q=>∃z,x=.str z∧z.length≤sizeLine∧Q (.str (Txt.slice z lo hi)) H
theorem GB:U8 X Jb:=by
 intro pins s σ H x v vl vu lo hi sl Q I rx hs pl pu h;obtain⟨z,rfl,hz,q⟩:=h;obtain⟨t,rfl⟩:=rx;refine⟨"str",_,PySem.F.slot_str_getitem.lookup,typeIs_str _ _ _,?_⟩;have fin:∀t' k,EP X pins σ Q (.str (Txt.slice z lo hi) t') { s with toks:=k }:=fun t' k=>⟨.str _,H,I.tok k,⟨t',rfl⟩,q⟩
 obtain⟨o,e,c,d⟩:=hs
 cases pl with
 |none=>cases pu with
  |none=>exact wpAny_getItem_str_slice (l:=none) (u:=none) (st:=none) ⟨o,e,c,d⟩ rfl (post_val_or_str ⟨Nat.le_trans (Txt.slice_le z _ _) hz,fin⟩)
  |int j u=>exact wpAny_getItem_str_slice (l:=none) (u:=some (j,u)) (st:=none) ⟨o,e,c,d⟩ rfl (post_val_or_str ⟨Nat.le_trans (Txt.slice_le z _ _) hz,fin⟩)
 |int i u1=>cases pu with
  |none=>exact wpAny_getItem_str_slice (l:=some (i,u1)) (u:=none) (st:=none) ⟨o,e,c,d⟩ rfl (post_val_or_str ⟨Nat.le_trans (Txt.slice_le z _ _) hz,fin⟩)
  |int j u=>exact wpAny_getItem_str_slice (l:=some (i,u1)) (u:=some (j,u)) (st:=none) ⟨o,e,c,d⟩ rfl (post_val_or_str ⟨Nat.le_trans (Txt.slice_le z _ _) hz,fin⟩)
theorem om:∀{ys:List Str}{us:List Value},aW (ys.map V.str) us→StrsAre us ys
 |[],_,.nil=>.nil
 |y::r,_,.cons h t=>by obtain⟨tk,e⟩:=h;subst e;exact .cons y tk (om t)
def Fx(K:W.Frag):V→List V→Hp→VK→Prop:=fun x xs H Q=>∃sep p ys,x=.str sep∧xs= [.ref p]∧Og K H p (ys.map V.str)∧(ys.map (·.length)).sum+ys.length * sep.length≤16777216∧Q (.str (Txt.join sep ys)) H
theorem Ey:Zy X "str.join" (Fx X.K):=by
 intro pins s σ H x xs v us Q I rx rv h;obtain⟨sep,p,ys,rfl,rfl,hp,hz,q⟩:=h;obtain⟨t,rfl⟩:=rx;obtain⟨u,rfl,ru⟩:=rv.one
 cases ru
 obtain⟨its,r,pl,_⟩:=I.list hp;exact join_list pl.isList (by simpa using om r) hz fun t' k=>⟨.str _,H,I.tok k,⟨t',rfl⟩,q⟩
noncomputable def Fw:R2:=fun x y H Q=>∃z k,x=.str z∧y=.int k∧MulOk z k∧Q (.str (Txt.mul z k)) H
theorem vV:Ov X (binaryOp .Mult) Fw:=by intro pins s σ H x y v u Q I rx ry h;obtain⟨z,k,rfl,rfl,hk,q⟩:=h;obtain⟨t,rfl⟩:=rx;obtain⟨t2,rfl⟩:=ry;exact SB.mul hk fun t' c=>⟨.str _,H,I.tok c,⟨t',rfl⟩,q⟩
end
theorem fm{H:Hp}{p:Addr}(h:H p=none)(o:HO):cD H (upd H p o):=fun b u q=>by rw[ai (ar q h)];exact q
theorem cD.Rt{K:W.Frag}{H H':Hp}{a:Addr}{xs:List V}(e:cD H H')(h:O5 K H a xs):O5 K H' a xs:=by
 rcases h with(h|⟨o,h⟩)|h
 ·exact .inl (.inl (e _ _ h))
 ·exact .inl (.inr ⟨o,e _ _ h⟩)
 ·exact .inr h
theorem dj{α:Type}{xs:List α}{j:Int}{v:α}(h0:0≤j)(h:xs[j.toNat]? =some v):O8 xs j=some v:=by obtain⟨k,rfl⟩:=Int.eq_ofNat_of_zero_le h0;exact Fi (by simpa using h)
open PySem.W
section
variable{X:Cx}
theorem oM{elt iter:Expr}{x:Str}{px:Pos}{ifs:List Expr}{scope:Scope}{pos:Pos}{wi:TI}{y:Str}{py T7:Pos}{iy:Nat}{tt:TT}{te:TE}{M:List Str}(g8:List Nat)(O7:X.calm=true)(S:eA X.N X.env.scope scope g8 x M)
  (hi:PI X (.Name x px) iter wi) (ht:∀cl C ex s H,YK (cZ X M scope cl C ex s H) ifs tt) (he:∀cl C ex s H,PE (cZ X M scope cl C ex s H) elt te)
  (Yu:X.N.Nodup) (hy:X.N[iy]? =some y) (Xr:X.env.scope.names.lookup y=some .local) (Yh:swapsWith (.ListComp elt [⟨.Name x px,iter,ifs,0⟩] scope pos) (some (.Name y py)) T7.line X.env=pure true)
  (hs:∀y,foldedSetIterable iter X.env y=pure y:=by intro _;rfl):PS X (.Assign [.Name y py] (.ListComp elt [⟨.Name x px,iter,ifs,0⟩] scope pos) T7) (fun D σ H=>Am g8 wi tt te σ H fun v H1=>D.nx (σ.set iy (some v)) H1):=by
 intro pins s σ H D I h;rw[exec_Assign_Name_used _ _ _ _ Yh];refine wpAny_bind<|wpAny_standAt<|wpAny_bind ?_
 show wpAny _ X.A (comprehension (.ListComp elt [⟨.Name x px,iter,ifs,0⟩] scope pos) scope X.env _ (newList []) false (eval iter X.env) (some (assign (.Name y py) X.env)) >>= fun _=>pure ()) _ _ s;refine wpAny_bind<|wpAny_mono (wpAny_comprehension_free (use:=some (assign (.Name y py) X.env)) (Q:=fun _ s'=>SP X pins D .next s') rfl hs (ka fun n hn=>I.ok.has n (S.free _ hn rfl)) S.kind S.names ?_) (fun _ _ z=>wpAny_pure (wpAny_pure z)) fun _ _ z=>z
 refine I_ (hi pins s σ H _ I h) fun v s1 h1=>I_ h1 fun Zf s2 h2=>?_;obtain⟨it,fp,tn,J,H2,e,I2,T,V3,f2,W,⟨m0,w0⟩,turn⟩:=h2;subst e;refine wpAny_newObj_type (wpAny_newFunctionEnv S.Td (by intro y hy;simp at hy) (fun h₁ Ud Te=>?_) S.kind);dsimp only at Ud Te ⊢;generalize hH2:s2.heap.push { cls:=.type "list",dict:=none,data:=.seq ([]:List Value).toArray }=P2 at Ud Te ⊢;have Xe:P2.objs.size=s2.heap.objs.size+1:=by rw[← hH2,Heap.size_push]
 have U6:s2.heap.objs.size≠P2.objs.size:=by rw[Xe];exact Nat.ne_of_lt (Nat.lt_succ_self _)
 have SN:s2.heap.objs.size≤P2.objs.size:=by rw[Xe];exact Nat.le_succ _
 have below:∀b,b<s2.heap.objs.size→b≠P2.objs.size:=fun b hb=>by rw[Xe];exact Nat.ne_of_lt (Nat.lt_succ_of_lt hb)
 have old:∀b o,s2.heap.get? b=some o→h₁.get? b=some o:=fun b o e=>Te.extBut b o (below b (Heap.lt_size e)) (Heap.get?_push_of_some _ (hH2▸Heap.get?_push_of_some _ e));have Xb:h₁.PlainList s2.heap.objs.size #[]:=⟨_,Te.extBut _ _ U6 (Heap.get?_push_of_some _ (hH2▸Heap.get?_push_size _ rfl))⟩
 have Xi:∀b∈fp,∃o,s2.heap.get? b=some o∧∀v,o.data≠.cell v:=T.obj 0 _ V3
 have Yy:s2.heap.objs.size∉fp:=fun hb=>by obtain⟨o,e,_⟩:=Xi _ hb;exact absurd (Heap.lt_size e) (Nat.lt_irrefl _)
 have hDs:∀{c:Addr}{o:Obj},s2.heap.get? c=some o→c≠s2.heap.objs.size:=fun e=>Nat.ne_of_lt (Heap.lt_size e)
 let Y:Cx:=cZ X M scope (dP X.env.cells scope.names []) P2.objs.size fp s2 H2
 have I4:Inv Y [] (none::gw g8 σ) H2 { s2 with heap:=h₁,toks:=s2.toks+([]:List (Str×Value)).length }:=
  pD S O7 I2 f2 (fun b hb=>let⟨o,e,_⟩:=Xi b hb;⟨o,e⟩) SN rfl I2.bare old Ud
 have fpY:∀{M5:List (Addr×Obj)}{H':Hp},(∀b∈fp,H' b=none)→(∀p∈M5,p.1∉fp)→∀b∈fp,jT Y M5 H' b:=fun{M5 H'} hn hp b hb=>by
  obtain⟨o,e,_⟩:=Xi b hb;refine⟨hn b hb,below b (Heap.lt_size e),fun hs=>?_,.inl hb,fun y c h=>(f2 b hb).2.2.2.2.1 y c (eN h).1,fun p hp' z=>hp p (show p∈M5 from by have q:p∈ []++M5:=hp';simpa using q) (by rw[z];exact hb)⟩;rcases List.mem_cons.mp (I2.RZ b hs)with z|z
  ·exact(f2 b hb).2.1 z
  ·exact(f2 b hb).2.2.1 z
 have Dfs:s2.heap.objs.size∉Y.fs:=fun hs=>by obtain⟨_,o,ho,_⟩:=I2.stack.mem hs;exact absurd (Heap.lt_size ho) (Nat.lt_irrefl _)
 have Vp:∀y c,Y.env.cells.lookup y=some c→c≠s2.heap.objs.size:=fun y c h z=>by obtain⟨v,q⟩:=I2.cell y c (eN h).1;rw[z]at q;exact absurd q.lt (Nat.lt_irrefl _)
 have loop:∀s₃:Shared,s₃={ s2 with heap:=h₁,toks:=s2.toks+([]:List (Str×Value)).length }→
   codeAny (model X.prog X.w) X.A (.compLoop (.ListComp elt [⟨.Name x px,iter,ifs,0⟩] scope pos) 0 (.ref it) (.ref s2.heap.objs.size) (compEnvC scope (dP X.env.cells scope.names []) P2.objs.size X.env))
    (compPost (model X.prog X.w) X.A X.xe (some (assign (.Name y py) X.env)) (fun _ s'=>SP X pins D .next s') (.ref s2.heap.objs.size) P2.objs.size) s₃:=by
  rintro s₃ rfl
  refine lO (fun n s'=>∃i acc H' its,Inv Y [] (none::gw g8 σ) H' s'∧tn i s'.heap∧(∀b∈fp,H' b=none)∧H' s2.heap.objs.size=none∧s'.heap.PlainList s2.heap.objs.size its∧aW acc its.toList∧acc.length≤sizeLine∧W i n acc H') ?_ m0
   ⟨0,[],H2, #[],I4,T.keep 0 _ _ V3 (fun b hb o e=>old b o e),fun b hb=>(f2 b hb).1,I2.hok.fresh (ab2 _),Xb,.nil,Nat.zero_le _,w0⟩
  rintro n s5 ⟨i,acc,H5,its,I5,V2,Xg,Xd,hl5,V4,Ye,w5⟩
  have Ys:Y.calm=true:=rfl;obtain⟨nn,el5⟩:=hl5
  have Xm:Inv Y [(s2.heap.objs.size,{ cls:=.type "list",data:=.seq its nn })] (none::gw g8 σ) H5 s5:=I5.NQ fun p hp=>by
   have e:p=(s2.heap.objs.size,{ cls:=.type "list",data:=.seq its nn }):=by simpa using hp
   subst e;exact⟨el5,Xd,U6,Dfs,fun v z=>by cases z⟩
  have Xh:∀{H':Hp},(∀b∈fp,H' b=none)→∀b∈fp,jT Y [(s2.heap.objs.size,{ cls:=.type "list",data:=.seq its nn })] H' b:=fun hn=>fpY hn fun p hp=>by
   have e:p=(s2.heap.objs.size,{ cls:=.type "list",data:=.seq its nn }):=by simpa using hp
   subst e;exact Yy
  have WR:aW acc its.toList:=V4;rcases turn i n acc H5 w5 with⟨stop,qn⟩|⟨go,SM,step⟩
  ·refine I_ (T.done Y rfl rfl rfl Ys i _ s5 _ H5 (fun _ _=>False) Xm (Xh Xg) V2 stop) ?_;rintro r s6 ⟨hr,I6⟩;subst hr;obtain⟨m6,hn6,_⟩:=id I6.loc;obtain⟨p1,p2,_⟩:=I6.pin (s2.heap.objs.size,{ cls:=.type "list",data:=.seq its nn }) (by simp);have J0:Inv X pins σ (upd H5 s2.heap.objs.size (.lst acc)) s6:=qO (its:=its.toList) (Xf:=s6.heap) I2 f2 I6 SN (ab2 _) U6 Xd (show s6.heap.PlainList s2.heap.objs.size its.toList.toArray from⟨nn,by rw[Array.toArray_toList];exact p1⟩) WR Ye ⟨rfl,fun _ _=>rfl⟩;obtain⟨oC,esC,epC,gC,dC,XQ⟩:=hn6;have c1:P2.objs.size≠X.env.locals:=fun z=>absurd (Nat.lt_of_lt_of_le I2.lt SN) (by rw[z];exact Nat.lt_irrefl _);have c2:upd H5 s2.heap.objs.size (.lst acc) P2.objs.size=none:=by rw[ai (Ne.symm U6)];exact I6.free
   have c3:P2.objs.size∉X.fs:=I2.X6 SN
   have J1:Inv X ((P2.objs.size,oC)::pins) σ (upd H5 s2.heap.objs.size (.lst acc)) s6:=J0.NQ fun p hp=>by
    rcases List.mem_cons.mp hp with z|z
    ·subst z;exact⟨gC,c2,c1,c3,fun v z=>by rw[dC]at z;cases z⟩
    ·exact J0.pin p (List.mem_append_right _ z)
   have hg:=nJ (X:=X) (i:=iy) (pos:=py) Yu hy (Or.inl Xr) (.inr Xr);refine I_ (hg _ s6 σ _ (.ref s2.heap.objs.size) (.ref s2.heap.objs.size) (fun σ' H'=>σ'=σ.set iy (some (.ref s2.heap.objs.size))∧H'=upd H5 s2.heap.objs.size (.lst acc)) J1 rfl ⟨rfl,rfl⟩) ?_;rintro _ s7 ⟨σ7,H7,I7,e7,e8⟩;subst e7 e8;refine⟨m6,⟨oC,esC,epC,(I7.pin (P2.objs.size,oC) (by simp)).1,dC,XQ⟩,fun h' sb=>?_⟩;have same:∀b,b≠P2.objs.size→h'.get? b=s7.heap.get? b:=fun b hb=>sb.2 b hb;have I8:Inv X pins (σ.set iy (some (.ref s2.heap.objs.size))) (upd H5 s2.heap.objs.size (.lst acc)) s7:=I7.NQ fun p hp=>I7.pin p (List.mem_append_right _ (List.mem_cons_of_mem _ hp));refine⟨_,_,I8.call' (s':={ s7 with heap:=h' }) (ch:=[P2.objs.size]) rfl ⟨fun b o q n hb hx=>?_,fun b o q n hb hx=>?_,fun b o q n hx=>n,fun b o q hx=>?_,fun b xs q=>q,fun b o u q=>q,fun b ps q=>⟨#[],by simpa using q⟩⟩ (fun b u e=>?_) I8.bare fun b hb=>?_,qn _ Xd⟩
   ·exact(same b (fun z=>hx (by rw[z];exact List.mem_singleton_self _))).trans q
   ·exact⟨o.slots,(same b (fun z=>hx (by rw[z];exact List.mem_singleton_self _))).trans q⟩
   ·exact⟨o,(same b (fun z=>hx (by rw[z];exact List.mem_singleton_self _))).trans q⟩
   ·refine(show bE X.prog X.w _ s7.heap b u from I8.hok b u e).stay (fun c v hc q=>(same c ?_).trans q) (fun _ q=>q) fun _ _ q=>q;rcases hc with z|z
    ·rw[z];intro z2;rw[z2,c2]at e;cases e
    ·intro z2;rw[z2,c2]at z;cases z
   ·rw[List.mem_singleton.mp hb];refine⟨.inr (Nat.le_trans I2.sz SN),c1,fun x c h z=>?_,fun p hp z=>?_⟩
    ·obtain⟨v,q⟩:=I2.cell x c h;exact absurd (Nat.lt_of_lt_of_le q.lt SN) (by rw[z];exact Nat.lt_irrefl _)
    ·have q:=(I2.pin p hp).1;exact absurd (Nat.lt_of_lt_of_le (Heap.lt_size q) SN) (by rw[z];exact Nat.lt_irrefl _)
  ·refine I_ (T.item Y rfl rfl rfl Ys i _ s5 _ H5 (fun _ _=>False) Xm (Xh Xg) V2 go) ?_;rintro r s6 ⟨u,hr,h6⟩;subst hr;refine I_ h6 ?_;rintro _ s7 ⟨v7,H7,I7,r7,y7,WM,fr7⟩;have I7':=I7.pinned (Xh fr7) (T.obj _ _ WM);have hg:PG Y (.Name x px) (ye 0):=nJ (X:=Y) (i:=0) S.nd (by show M[0]? =some x;rw[S.inN];rfl) (Or.inl (lookup_relabel_local S.var)) (.inr (lookup_relabel_local S.var));refine I_ (hg _ s7 _ H7 v7 u (fun σ8 H8=>σ8=some v7::gw g8 σ∧H8=H7) I7' r7 ⟨rfl,rfl⟩) ?_;rintro _ s8 ⟨σ8,H8,I8,e8,e8'⟩;subst e8 e8';refine I_ (ht _ _ _ _ _ _ s8 _ _ _ I8 (step v7 _ y7)) ?_;rintro b s9 ⟨H9,I9,q9⟩
   have tail:∀{σ':St}{H':Hp}{s':Shared},Inv Y ([(s2.heap.objs.size,{ cls:=.type "list",data:=.seq its nn })]++mx fp s7.heap) σ' H' s'→
     tn (i+1) s'.heap∧(∀b∈fp,H' b=none)∧s'.heap.get? s2.heap.objs.size=some { cls:=.type "list",data:=.seq its nn }∧H' s2.heap.objs.size=none:=fun{σ' H' s'} J=>by
    refine⟨T.keep _ _ _ WM fun b hb o e=>(J.pin (b,o) (List.mem_append_right _ (List.mem_append_right _ (eK hb e)))).1,fun b hb=>?_,?_⟩
    ·obtain⟨o,e,d⟩:=T.obj _ _ WM b hb;exact(J.pin (b,o) (List.mem_append_right _ (List.mem_append_right _ (eK hb e)))).2.1
    ·have p:=J.pin (s2.heap.objs.size,{ cls:=.type "list",data:=.seq its nn }) (by simp);exact⟨p.1,p.2.1⟩
   cases b with
   |false=>
    obtain⟨m',hm,w9⟩:=(show∃m',m'<n∧W (i+1) m' acc H9 from by simpa using q9)
    obtain⟨t1,t2,t3,t4⟩:=tail I9;refine⟨m',hm,i+1,acc,H9,its,?_,t1,t2,t4,⟨nn,t3⟩,V4,Ye,w9⟩
    exact(I9.NQ (M5:=[]) fun p hp=>absurd hp (by simp)).weak (by simp) fun j w z=>by
     cases j with
     |zero=>simp at z
     |succ j=>simpa using z
   |true=>
    have ZV:te (some v7::gw g8 σ) H9 fun y H3=>∃m',m'<n∧W (i+1) m' (acc++ [y]) H3:=by simpa using q9
    refine I_ (he _ _ _ _ _ _ s9 _ _ _ I9 ZV) ?_;rintro ZK XM ⟨y,YQ,YM,r10,m',hm,YT⟩;obtain⟨t1,t2,t3,t4⟩:=tail YM;have lz:its.size=acc.length:=by rw[V4.length];simp
    refine wpAny_list_append_plain ⟨nn,t3⟩ (fun h' Yl XH=>?_) (by omega)
    have I11:Inv Y [] (some v7::gw g8 σ) YQ { XM with heap:=h',toks:=XM.toks }:=
     (YM.NQ (M5:=[]) fun p hp=>absurd hp (by simp)).turned (it:=s2.heap.objs.size) (fun b o hb e=>(XH.2 b hb).trans e) t4 U6 (.inr (ab2 _)) Vp (fun p hp=>absurd (show p∈([]:List (Addr×Obj))from hp) (by simp))
    refine⟨m',hm,i+1,acc++ [y],YQ,its.push ZK,?_,T.keep _ _ _ t1 (fun b hb o e=>(XH.2 b (fun z=>Yy (z▸hb))).trans e),t2,t4,Yl,?_,?_,YT⟩
    ·exact I11.weak (by simp) fun j w z=>by
      cases j with
      |zero=>simp at z
      |succ j=>simpa using z
    ·rw[Array.toList_push];exact V4.append (.cons r10 .nil)
    ·rw[List.length_append,List.length_singleton];omega
 exact codeAny_compStart_list (loop _ rfl) (T.self X.A 0 _ _ _ (T.keep 0 _ _ V3 (fun b hb o e=>old b o e)) (loop _ rfl))
end
end L2
set_option autoImplicit false
namespace L2
open PySem
def DK(h h':Heap):Prop:=∀b o,h.get? b=some o→∃o',h'.get? b=some o'∧o'.dict=o.dict
theorem DK.refl(h:Heap):DK h h:=fun _ o e=>⟨o,e,rfl⟩
theorem DK.trans{h1 h2 h3:Heap}(x:DK h1 h2)(y:DK h2 h3):DK h1 h3:=fun b o e=>by obtain⟨o1,e1,d1⟩:=x b o e;obtain⟨o2,e2,d2⟩:=y b o1 e1;exact⟨o2,e2,d2.trans d1⟩
def Kd{α:Type}(t:Sem α):Prop:=∀(M:Model)(Γ:Ctx)(Q:α→Pos→Shared→Prop)(E:Value→Pos→Shared→Prop)(p:Pos)(s:Shared),Sem.wp M Γ t Q E p s→
 Sem.wp M Γ t (fun a p' s'=>Q a p' s'∧DK s.heap s'.heap) (fun e p' s'=>E e p' s'∧DK s.heap s'.heap) p s
section
variable{α β:Type}
theorem Kd.bind{m:Sem α}{f:α→Sem β}(hm:Kd m)(hf:∀a,Kd (f a)):Kd (m >>= f):=fun M Γ Q E p s h=>by rw[Sem.wp_bind']at h ⊢;refine Sem.wp_mono M Γ m (fun a p1 s1 z=>?_) (fun e p1 s1 z=>z) p s (hm M Γ _ _ p s h);exact Sem.wp_mono M Γ (f a) (fun b p2 s2 y=>⟨y.1,z.2.trans y.2⟩) (fun e p2 s2 y=>⟨y.1,z.2.trans y.2⟩) p1 s1 (hf a M Γ Q E p1 s1 z.1)
theorem Kd.pure(a:α):Kd (Pure.pure a:Sem α):=fun M Γ Q E p s h=>by rw[Sem.wp_pure']at h ⊢;exact⟨h,DK.refl _⟩
theorem Kd.Vs(x:String):Kd (unsupported x:Sem α):=fun M Γ Q E p s h=>by rw[show(unsupported x:Sem α)=.unsupported x from rfl,Sem.wp_unsupported]at h;exact h.elim
theorem Kd.load(a:Addr):Kd (PySem.load a):=fun M Γ Q E p s h=>by rw[show PySem.load a=.load a none .pure from rfl,Sem.wp_load]at h ⊢;obtain⟨o,h1,h2⟩:=h;rw[Sem.wp_pure]at h2;exact⟨o,h1,by rw[Sem.wp_pure];exact⟨h2,DK.refl _⟩⟩
theorem Kd.stack:Kd PySem.stack:=fun M Γ Q E p s h=>by rw[show PySem.stack=.stack .pure from rfl,Sem.wp_stack,Sem.wp_pure]at h ⊢;exact⟨h,DK.refl _⟩
theorem Kd.alloc(o:Obj):Kd (PySem.alloc o):=fun M Γ Q E p s h=>by rw[show PySem.alloc o=.alloc o .pure from rfl,Sem.wp_alloc,Sem.wp_pure]at h ⊢;exact⟨h,fun b o' e=>⟨o',Heap.get?_push_of_some _ e,rfl⟩⟩
theorem Kd.update{a:Addr}{f:Obj→Obj}(hf:∀o,o.isFreed=false→(f o).isFreed=false∧(f o).dict=o.dict):Kd (PySem.update a f):=fun M Γ Q E p s h=>by
 rw[show PySem.update a f=.update a none f .pure from rfl,Sem.wp_update]at h ⊢;obtain⟨h1,h2⟩:=h;rw[Sem.wp_pure]at h2;refine⟨h1,?_⟩;rw[Sem.wp_pure];refine⟨h2,fun b o e=>?_⟩
 by_cases hb:a=b
 ·subst hb;obtain⟨z1,z2⟩:=hf o (Heap.get?_some_iff.mp e).2;exact⟨f o,Heap.get?_update_self f e z1,z2⟩
 ·exact⟨o,(Heap.get?_update_other _ _ hb).trans e,rfl⟩
theorem Kd.ite{c:Prop}[Decidable c]{t u:Sem α}(ht:Kd t)(hu:Kd u):Kd (if c then t else u):=by
 split
 ·exact ht
 ·exact hu
theorem uK(v:Value):Kd (fieldsOf v):=by
 unfold fieldsOf
 split
 ·refine(Kd.load _).bind fun o=>?_
  split
  ·exact Kd.pure _
  ·exact Kd.Vs _
 ·exact Kd.Vs _
theorem lH(v:Value)(i:Nat):Kd (field v i):=by
 refine(uK v).bind fun vs=>?_
 split
 ·exact Kd.pure _
 ·exact Kd.Vs _
theorem nj(g:Array Value→Array Value)(o:Obj)(h:o.isFreed=false):(Obj.mapFields g o).isFreed=false∧(Obj.mapFields g o).dict=o.dict:=by
 unfold Obj.mapFields
 split
 ·exact⟨rfl,rfl⟩
 ·exact⟨h,rfl⟩
theorem jp(v:Value)(i:Nat)(x:Value):Kd (setField v i x):=by
 unfold setField
 split
 ·unfold updateField;refine(Kd.load _).bind fun o=>?_
  split
  ·exact Kd.ite (Kd.update fun o h=>nj _ o h) (Kd.Vs _)
  ·exact Kd.Vs _
 ·exact Kd.Vs _
theorem iH(e:Value)(f:Option Addr):Kd (setFlight e f):=by refine(lH e 1).bind fun tb=>?_;exact Kd.ite (jp _ _ _) (Kd.pure _)
theorem sB(ty:String)(vs:List Value):Kd (newFields ty vs):=by
 unfold newFields newObj
 have as:Kd (newObjAsIs (.type ty) (.fields vs.toArray) none):=by unfold newObjAsIs;exact(Kd.alloc _).bind fun _=>Kd.pure _
 dsimp only
 split
 ·exact(Kd.Vs _).bind fun _=>as
 ·exact as
theorem jq:∀l:List Env,Kd (readyFrames l)
 |[]=>Kd.pure _
 |env::outer=>by
  unfold readyFrames
  split
  ·refine(Kd.load _).bind fun o=>Kd.ite (Kd.pure _) ?_;refine Kd.bind ?_ fun i=>Kd.bind ?_ fun b=>Kd.bind (Kd.update fun o h=>⟨?_,rfl⟩) fun _=>jq outer
   ·unfold behindIsImport;exact Kd.ite (Kd.pure _) (Kd.ite (Kd.pure _) ((lH _ _).bind fun _=>Kd.pure _))
   ·unfold keptBack
    split
    ·refine Kd.ite (Kd.pure _) ?_;exact Kd.bind (Kd.stack.bind fun _=>Kd.pure _) fun _=>Kd.pure _
    ·exact Kd.pure _
   ·obtain⟨c,d,dt,s0⟩:=o
    cases dt<;>first|rfl|(simp[Obj.isFreed]at h)
  ·exact Kd.Vs _
theorem wk(env:Env):Kd (frameOf env):=by
 unfold frameOf;refine Kd.bind (Kd.stack.bind fun _=>Kd.pure _) fun l=>Kd.bind ?_ fun o=>?_
 ·unfold frameObject
  split
  ·exact Kd.pure _
  ·exact(jq _).bind fun _=>Kd.pure _
 ·split
  ·exact Kd.pure _
  ·exact Kd.Vs _
theorem nq(f:Addr)(b:Bool):Kd (entryPlaceOf f b):=by
 unfold entryPlaceOf;refine Kd.stack.bind fun _=>?_
 split
 ·exact Kd.pure _
 ·exact Kd.pure _
theorem lG(e:Value)(env:Env):Kd (noteFrame e env):=by
 unfold noteFrame
 split
 ·have go:∀hd:Value,∀f:Addr,Kd (do setField e 1 (← EntryCells.newEntry hd (← frameOf env) .none (rawInt f) .none (← entryPlaceOf f (hd != .none)))):=fun hd f=>(wk env).bind fun _=>(nq _ _).bind fun _=>(sB _ _).bind fun _=>jp _ _ _
  refine(lH e 1).bind fun hd=>?_;refine Kd.ite ?_ (go _ _);exact(lH _ _).bind fun x=>Kd.ite (Kd.pure _) ((jp _ _ _).bind fun _=>go _ _)
 ·exact Kd.Vs _
theorem ku(env:Env)(e:Value):Kd (leaving env e):=(lG e env).bind fun _=>iH e none
end
open PySem.Spec PyProof.Rows
theorem bE.there{P:Program}{w:World}{H:Hp}{h:Heap}{a:Addr}{o:HO}(x:bE P w H h a o):∃ob,h.get? a=some ob:=by
 cases o with
 |lst xs=>obtain⟨_,_,_,_,e⟩:=x;exact⟨_,e⟩
 |tup xs=>obtain⟨_,_,_,ob,e,_⟩:=x;exact⟨_,e⟩
 |dK kvs=>obtain⟨_,_,_,_,o,_,_,e,_⟩:=x;exact⟨_,e⟩
 |dT kvs=>obtain⟨_,_,_,_,o,_,_,e,_⟩:=x;exact⟨_,e⟩
 |set S n=>obtain⟨o,_,_,_,e,_⟩:=x;exact⟨_,e⟩
 |ins C dx fs=>obtain⟨_,_,_,e,_⟩:=x;exact⟨_,e⟩
 |own y=>exact x
 |xd fs=>obtain⟨_,⟨_,_,_,e,_⟩,_⟩:=x;exact⟨_,e⟩
 |rng lo hi=>obtain⟨_,_,_,e⟩:=x;exact⟨_,e⟩
 |SQ ob u=>obtain⟨e,_⟩:=x;exact⟨_,e⟩
 |Wi ps=>exact⟨_,show h.get? a=some _ from x⟩
 |met f y=>exact⟨_,show h.get? a=some _ from x⟩
 |ext φ=>obtain⟨_,z,_⟩:=x;exact z
def Cov(l:List Env)(h:Heap)(H':Hp)(B:Heap):Prop:=(∀b o,h.get? b=some o→b∉frs l→∃o',B.get? b=some o')∧∀b u,H' b=some u→∃o',B.get? b=some o'
def nC(h:Heap)(a:Addr)(dx:Option Addr):Prop:=∃o,h.get? a=some o∧o.dict=dx
theorem nC.on{h h':Heap}{a:Addr}{dx:Option Addr}(x:nC h a dx)(k:DK h h'):nC h' a dx:=by obtain⟨o,e,d⟩:=x;obtain⟨o',e',d'⟩:=k a o e;exact⟨o',e',d'.trans d⟩
theorem sD{α:Type}{M:Model}{A:Around}{t:Sem α}{Q Q':α→Shared→Prop}{E E':Value→Shared→Prop}{s:Shared}(k:Kd t)(h:wpAny M A t Q E s)(hq:∀a s',Q a s'→DK s.heap s'.heap→Q' a s')(he:∀e s',E e s'→E' e s'):wpAny M A t Q' E' s:=
 fun Γ p hΓ=>Sem.wp_mono M Γ t (fun a _ s' z=>hq a s' z.1 z.2) (fun e _ s' z=>he e s' z.1) p s (k M Γ _ _ p s (h Γ p hΓ))
theorem Cj{α:Type}{M:Model}{A:Around}{t:Sem α}{Q:α→Shared→Prop}{E:Value→Shared→Prop}{s:Shared}{a:Addr}{dx:Option Addr}(k:Kd t)(d:nC s.heap a dx)(h:wpAny M A t (fun x s'=>nC s'.heap a dx→Q x s') E s):wpAny M A t Q E s:=
 sD k h (fun _ _ q dk=>q (d.on dk)) fun _ _ z=>z
def Rb(P:Program)(w:World):UW:=fun outer H s E e s'=>∃(a:Addr)(cls a0:Value)(B:Heap)(H':Hp)(dx:Option Addr),e=.ref a∧s'.os=s.os∧AllBare s'.gens∧Un (frs outer) [] H H' s.heap s'.heap∧Pq P w H' s'.heap∧Heap.FlyingW B outer a cls a0 s'.heap∧Cov outer s.heap H' B∧nC s'.heap a dx∧E cls dx H'
theorem Un.then{fs:List Addr}{H0 H:Hp}{h0 h1 h2:Heap}{L:Addr}(u:Un fs [] H0 H h0 h1)(hL:∀b o,h0.get? b=some o→b≠L)
  (k:∀b o,h1.get? b=some o→b≠L→b∉fs→h2.get? b=some o) (ks:∀b o,h1.get? b=some o→b∈fs→∃sl,h2.get? b=some { o with slots:=sl }):Un fs [] H0 H h0 h2 where
 keep:=fun b o e n hb hx=>k b o (u.keep b o e n hb hx) (hL b o e) hb
 slot:=fun b o e n hb hx=>by obtain⟨sl,e1⟩:=u.slot b o e n hb hx;obtain⟨T9,e2⟩:=ks b _ e1 hb;exact⟨T9,e2⟩
 free:=u.free
 there:=fun b o e hx=>by
  obtain⟨o',e1⟩:=u.there b o e hx
  by_cases hb:b∈fs
  ·obtain⟨sl,e2⟩:=ks b o' e1 hb;exact⟨_,e2⟩
  ·exact⟨o',k b o' e1 (hL b o e) hb⟩
 tups:=u.tups
 N8:=u.N8
 QF:=u.QF
section
variable{X:Cx}{pins:List (Addr×Obj)}{σ:St}{H:Hp}{s:Shared}{E:XK}
theorem iJ(stk:X.stack=X.env::X.outer)(hf:X.env.frame=some X.env.locals){b:Addr}:b∈frs X.stack↔b=X.env.locals∨b∈X.fs:=by rw[stk];unfold frs;rw[List.filterMap_cons,hf];exact List.mem_cons
theorem gq{base h:Heap}{l:List Env}(f:h.FunFrames base l){b:Addr}(hb:b∈frs l):∃o,h.get? b=some o∧∀vs,o.data≠.fields vs:=(f.mem hb).2
theorem wj{M:Model}{h':Heap}{e:Addr}{cls:Value}{args:List Value}{Ee:Value→Shared→Prop}(I:Inv X pins σ H s)(stk:X.stack=X.env::X.outer)(hf:X.env.frame=some X.env.locals)(hex:X.ex= [])
  (m:Heap.MadeExcOf s.heap h' e cls args) (hE:E cls none H):
  wpAny M X.A (leaving X.env (.ref e)) (fun _ Ru=>Rb X.prog X.w X.outer X.H₀ X.s₀ E (.ref e) Ru) Ee { s with heap:=h' }:=by
 have W8:X.A.frames=some (X.env::X.outer):=by rw[I.ok.frames,stk]
 have W3:∀b o,s.heap.get? b=some o→b∉frs X.stack→(W.hideAll s.heap (frs X.stack)).get? b=some o:=fun b o q n=>W.hideAll_get _ q n;refine sD (Q:=fun _ Ru=>nC Ru.heap e none→Rb X.prog X.w X.outer X.H₀ X.s₀ E (.ref e) Ru) (ku _ _) (wpAny_leaves_madeW (base:=W.hideAll s.heap (frs X.stack)) (h:=s.heap) (s:={ s with heap:=h' }) W8 hf (fun b o q=>W.of_hideAll _ q) ?_ m fun h2 t fl _ _ up Yx=>?_) (fun _ Ru q dk=>q (nC.on ?_ dk)) fun _ _ z=>z
 ·have:=W.funFrames_hide (as:=frs X.stack) I.stack (fun env he a ha=>List.mem_filterMap.mpr ⟨env,he,ha⟩);rw[stk]at this ⊢;exact this
 rotate_left
 ·obtain⟨t,he,_⟩:=m.there;exact⟨_,he,rfl⟩
 ·have k2:∀b o,s.heap.get? b=some o→b∉frs X.stack→h2.get? b=some o:=fun b o q n=>fl.1 b o (W3 b o q n);have Vy:∀b o,X.s₀.heap.get? b=some o→b≠X.env.locals:=fun b o q=>Nat.ne_of_lt (Nat.lt_of_lt_of_le (Heap.lt_size q) I.ok.above);have base:=I.base;rw[hex]at base;refine⟨e,cls,_,_,H,none,rfl,I.os,I.bare,base.then Vy (fun b o q n1 n2=>k2 b o q fun z=>?_) (fun b o q hb=>?_),fun b u q=>?_,fl,⟨fun b o q n=>?_,fun b u q=>?_⟩,Yx,hE⟩
  ·rcases(iJ stk hf).mp z with z|z
   ·exact n1 z
   ·exact n2 z
  ·obtain⟨o2,q2,d2⟩:=gq I.stack ((iJ stk hf).mpr (.inr hb));rw[q]at q2
   cases q2
   exact up b o (m.keeps b o q) d2
  ·refine(I.hok b u q).stay (fun c v hc r=>k2 c v r fun z=>?_) (fun _ r=>r) fun _ _ r=>r;have:=I.Pa c z;rcases hc with rfl|hc
   ·rw[this]at q;cases q
   ·rw[this]at hc;cases hc
  ·obtain⟨o',q'⟩:=I.base.there b o q (by rw[hex];simp);refine⟨o',W3 b o' q' fun z=>?_⟩;rcases(iJ stk hf).mp z with z|z
   ·exact Vy b o q z
   ·exact n z
  ·obtain⟨ob,q'⟩:=(I.hok b u q).there;refine⟨ob,W3 b ob q' fun z=>?_⟩;rw[I.Pa b z]at q;cases q
noncomputable def del(H:Hp)(e:Addr):Hp:=fun b=>if b=e then none else H b
theorem iM{H:Hp}{e b:Addr}(n:b≠e):del H e b=H b:=if_neg n
theorem pw{H:Hp}{e:Addr}:del H e e=none:=if_pos rfl
theorem zv{M:Model}{e:Addr}{o:Obj}{vs:Array Value}{a0:Value}{φ:Heap→Prop}{Ee:Value→Shared→Prop}(I:Inv X pins σ H s)(stk:X.stack=X.env::X.outer)(hf:X.env.frame=some X.env.locals)(hex:X.ex= [])
  (ho:s.heap.get? e=some o) (hd:o.data=.fields vs) (h0:vs[0]? =some a0) (h1:vs[1]? =some .none) (hH:H e=some (.ext φ)) (new:X.s₀.heap.get? e=none) (hE:E o.cls o.dict (del H e)):
  wpAny M X.A (leaving X.env (.ref e)) (fun _ Ru=>Rb X.prog X.w X.outer X.H₀ X.s₀ E (.ref e) Ru) Ee s:=by
 have W8:X.A.frames=some (X.env::X.outer):=by rw[I.ok.frames,stk]
 have ne:e∉frs X.stack:=fun z=>by rw[I.Pa e z]at hH;cases hH
 have W3:∀b ob,s.heap.get? b=some ob→b∉frs X.stack→b≠e→(W.hideAll s.heap (e::frs X.stack)).get? b=some ob:=fun b ob q n n2=>W.hideAll_get _ q (by simp[n,n2])
 have fr2:s.heap.FunFrames (W.hideAll s.heap (e::frs X.stack)) (X.env::X.outer):=by have:=W.funFrames_hide (as:=e::frs X.stack) I.stack (fun env he a ha=>List.mem_cons_of_mem _ (List.mem_filterMap.mpr ⟨env,he,ha⟩));rw[stk]at this ⊢;exact this
 have eB:(W.hideAll s.heap (e::frs X.stack)).get? e=none:=W.hideAll_none _ (by simp);refine sD (Q:=fun _ Ru=>nC Ru.heap e o.dict→Rb X.prog X.w X.outer X.H₀ X.s₀ E (.ref e) Ru) (ku _ _) (wpAny_leaving_firstW (base:=W.hideAll s.heap (e::frs X.stack)) W8 fr2 hf ho (fun b ob q=>W.of_hideAll _ q) eB hd h1 h0 fun h2 L Yx=>?_) (fun _ Ru q dk=>q (nC.on ⟨o,ho,rfl⟩ dk)) fun _ _ z=>z;obtain⟨k1,⟨_,_,kf⟩,kt,up⟩:=L;have k2:∀b ob,s.heap.get? b=some ob→b∉frs X.stack→b≠e→h2.get? b=some ob:=fun b ob q n n2=>k1 b ob (W3 b ob q n n2);have Vy:∀b ob,X.s₀.heap.get? b=some ob→b≠X.env.locals:=fun b ob q=>Nat.ne_of_lt (Nat.lt_of_lt_of_le (Heap.lt_size q) I.ok.above);have Y8:∀b ob,X.s₀.heap.get? b=some ob→b≠e:=fun b ob q z=>by subst z;rw[new]at q;cases q
 have base:=I.base;rw[hex]at base;refine⟨e,o.cls,a0,_,del H e,o.dict,rfl,I.os,I.bare,⟨fun b ob q n hb hx=>?_,fun b ob q n hb hx=>?_,fun b ob q n hx=>?_,fun b ob q hx=>?_,fun b xs q=>?_,fun b ob u q=>?_,fun b ps q=>?_⟩,fun b u q=>?_,⟨k1,eB,kf,kt⟩,⟨fun b ob q n=>?_,fun b u q=>?_⟩,Yx,hE⟩
 ·refine k2 b ob (base.keep b ob q n hb hx) (fun z=>?_) (Y8 b ob q);rcases(iJ stk hf).mp z with z|z
  ·exact Vy b ob q z
  ·exact hb z
 ·obtain⟨sl,e1⟩:=base.slot b ob q n hb hx;obtain⟨o2,q2,d2⟩:=gq I.stack ((iJ stk hf).mpr (.inr hb));rw[e1]at q2
  cases q2
  obtain⟨T9,e2⟩:=up b _ e1 d2;exact⟨T9,e2⟩
 ·rw[iM (Y8 b ob q)];exact base.free b ob q n hx
 ·obtain⟨o',e1⟩:=base.there b ob q hx
  by_cases hb:b∈frs X.stack
  ·obtain⟨o2,q2,d2⟩:=gq I.stack hb;obtain⟨T9,e2⟩:=up b _ q2 d2;exact⟨_,e2⟩
  ·exact⟨o',k2 b o' e1 hb (Y8 b ob q)⟩
 ·have z:=base.tups b xs q;rw[iM (fun y=>by subst y;rw[hH]at z;cases z)];exact z
 ·have z:=base.N8 b ob u q;rw[iM (fun y=>by subst y;rw[hH]at z;cases z)];exact z
 ·obtain⟨more,z⟩:=base.QF b ps q;exact⟨more,by rw[iM (fun y=>by subst y;rw[hH]at z;cases z)];exact z⟩
 ·have nb:b≠e:=fun z=>by subst z;rw[pw]at q;cases q
  rw[iM nb]at q;refine(I.hok b u q).stay (fun c v hc r=>k2 c v r (fun z=>?_) fun z=>?_) (fun c r=>?_) fun c xs r=>?_
  ·have:=I.Pa c z;rcases hc with rfl|hc
   ·rw[this]at q;cases q
   ·rw[this]at hc;cases hc
  ·subst z;rcases hc with rfl|hc
   ·exact nb rfl
   ·rw[hH]at hc;cases hc
  ·rw[iM (fun y=>by subst y;rw[hH]at r;cases r)];exact r
  ·rw[iM (fun y=>by subst y;rw[hH]at r;cases r)];exact r
 ·obtain⟨o',q'⟩:=I.base.there b ob q (by rw[hex];simp);refine⟨o',W3 b o' q' (fun z=>?_) (Y8 b ob q)⟩;rcases(iJ stk hf).mp z with z|z
  ·exact Vy b ob q z
  ·exact n z
 ·have nb:b≠e:=fun z=>by subst z;rw[pw]at q;cases q
  rw[iM nb]at q;obtain⟨ob,q'⟩:=(I.hok b u q).there;refine⟨ob,W3 b ob q' (fun z=>?_) nb⟩;rw[I.Pa b z]at q;cases q
theorem BZ{M:Model}{s':Shared}{e:Value}{Ec:XK}{Ee:Value→Shared→Prop}(I:Inv X pins σ H s)(stk:X.stack=X.env::X.outer)(hf:X.env.frame=some X.env.locals)(hex:X.ex= [])
  (c:Rb X.prog X.w X.stack H s Ec e s') (hE:∀cls dx H',Ec cls dx H'→E cls dx H'):
  wpAny M X.A (leaving X.env e) (fun _ Ru=>Rb X.prog X.w X.outer X.H₀ X.s₀ E e Ru) Ee s':=by
 obtain⟨a,cls,a0,B,H',dx,rfl,os,bare,un,hok,fl,⟨c1,c2⟩,da,q⟩:=c;have W8:X.A.frames=some (X.env::X.outer):=by rw[I.ok.frames,stk]
 have fl0:=fl;rw[stk]at fl;refine sD (Q:=fun _ Ru=>nC Ru.heap a dx→Rb X.prog X.w X.outer X.H₀ X.s₀ E (.ref a) Ru) (ku _ _) (wpAny_leaves_onW W8 hf fl fun h2 Zo up Yx=>?_) (fun _ Ru q dk=>q (da.on dk)) fun _ _ z=>z;have I2:Inv X pins σ H' s':=I.call' (ch:=[]) os un hok bare (fun b z=>absurd z (by simp));have Vy:∀b o,X.s₀.heap.get? b=some o→b≠X.env.locals:=fun b o q=>Nat.ne_of_lt (Nat.lt_of_lt_of_le (Heap.lt_size q) I.ok.above);have frB:∀b∈frs X.stack,B.get? b=none:=fun b hb=>(fl0.2.2.1.mem hb).1;have base:=I2.base;rw[hex]at base
 have old:∀b o,X.s₀.heap.get? b=some o→b∉X.fs→∃o',B.get? b=some o':=fun b o e n=>by
  obtain⟨o',e'⟩:=I.base.there b o e (by rw[hex];simp);refine c1 b o' e' fun z=>?_;rcases(iJ stk hf).mp z with z|z
  ·exact Vy b o e z
  ·exact n z
 refine⟨a,cls,a0,B,H',dx,rfl,?_,bare,⟨fun b o e n hb hx=>?_,fun b o e n hb hx=>?_,base.free,fun b o e hx=>?_,base.tups,base.N8,base.QF⟩,fun b u e=>?_,Zo,⟨old,c2⟩,Yx,hE _ _ _ q⟩
 ·exact os.trans I.os
 ·have e1:=base.keep b o e n hb hx;obtain⟨o',e2⟩:=old b o e hb;have:=fl0.1 b o' e2;rw[e1]at this
  cases this
  exact Zo.1 b _ e2
 ·obtain⟨sl,e1⟩:=base.slot b o e n hb hx;obtain⟨o2,q2,d2⟩:=gq I2.stack ((iJ stk hf).mpr (.inr hb));rw[e1]at q2
  cases q2
  obtain⟨T9,e2⟩:=up b _ e1 d2;exact⟨T9,e2⟩
 ·by_cases hb:b∈X.fs
  ·obtain⟨o',e1⟩:=base.there b o e hx;obtain⟨o2,q2,d2⟩:=gq I2.stack ((iJ stk hf).mpr (.inr hb));obtain⟨T9,e2⟩:=up b _ q2 d2;exact⟨_,e2⟩
  ·obtain⟨o',e2⟩:=old b o e hb;exact⟨o',Zo.1 b o' e2⟩
 ·have stay:∀c v,(c=b∨H' c=some (.own b))→s'.heap.get? c=some v→h2.get? c=some v:=fun c v hc r=>by
   have:∃u',H' c=some u':=by
    rcases hc with rfl|hc
    ·exact⟨u,e⟩
    ·exact⟨_,hc⟩
   obtain⟨u',hu⟩:=this;obtain⟨o',e2⟩:=c2 c u' hu;have:=fl0.1 c o' e2;rw[r]at this
   cases this
   exact Zo.1 c _ e2
  exact(hok b u e).stay stay (fun _ r=>r) fun _ _ r=>r
end
theorem Cy{K:W.Frag}{h:Heap}{C:Addr}{Sv:List Value}{NZ:String}(Px:K.In h)(ok:W.excIn K C Sv NZ=true):
  ∃bm N nm q bs hdct sn sub ab col dd k0 k1 k2 k3 k5 mN,h.get? C=some (excClassObj nm q C N bs bm hdct sn sub ab col dd k0 k1 k2 k3 k5 NZ)∧h.Ns N mN∧mN "__init__"=none∧OwnTail h Sv bm:=by
 unfold W.excIn at ok
 split at ok
 case h_2=>exact absurd ok (by decide)
 case h_1 dict Xl ZP lk=>
  split at ok
  case h_2=>exact absurd ok (by decide)
  case h_1 C2 tl f0 f1 f2 f3 nid f5 em es=>
   rw[ab1,ab1,ab1,ab1,ab1]at ok;obtain⟨⟨⟨⟨⟨z1,z2⟩,z3⟩,z4⟩,z5⟩,z6⟩:=ok;rw[Bool.not_eq_true']at z3;have Xk:ZP= #[f0,f1,f2,f3,some (.builtin nid),f5]:=Array.toList_inj.mp es
   cases beq_iff_eq.mp z1
   cases beq_iff_eq.mp z2
   rcases Xl with⟨c1,c2,c3,c4,c5,c6,c7,c8,c9,c10,c11⟩
   change c3=_ at em;change c11=false at z3;subst em z3 Xk;exact⟨tl,c4,c1,c5,c2,c6,c7,c8,c9,c10,dict,f0,f1,f2,f3,f5,_,Px _ _ lk,.of_isNs (W.isNs_of_in Px z5),W.nsMap_none_of_in Px z5 (beq_iff_eq.mp z6),W.tail_of_in Px z4⟩
def Lv(X:Cx)(E:XK):Prop:=X.stack=X.env::X.outer∧X.env.frame=some X.env.locals∧X.ex= []∧
 ∀e s',wpAny (model X.prog X.w) X.A (leaving X.env e) (fun _ Ru=>Rb X.prog X.w X.outer X.H₀ X.s₀ E e Ru) (fun e' Ru=>Rb X.prog X.w X.outer X.H₀ X.s₀ E e' Ru) s'→X.xe e s'
theorem jF{P:Program}{w:World}{K:W.Frag}{mg:Str→Option Value}{base:Heap}{N:List Str}{C_:Str}{scope:Scope}{f:Addr}{cd:Value}{A:Around}{outer:List Env}{s:Shared}{H:Hp}{E:XK}:
  Lv (jy (Rb P w) P w K mg base N C_ scope f cd A outer s H E) E:=⟨rfl,rfl,rfl,fun _ _ h=>h⟩
theorem Lv.passes{X:Cx}{E Ec:XK}(l:Lv X E)(h:∀cls dx H',Ec cls dx H'→E cls dx H'):eQ (Rb X.prog X.w) X Ec:=fun pins σ H s e s' I c=>l.2.2.2 e s' (BZ I l.1 l.2.1 l.2.2.1 c h)
section
variable{X:Cx}{E:XK}{x:Str}{C:Addr}{np Oe pos:Pos}{e0:Expr}{es:List Expr}{ta:TA}{Sv Xv:List Value}{B Bn NZ nid Rg inN:String}
noncomputable def Gr(C:Addr)(E:XK)(ta:TA):TS:=fun _ σ H=>ta σ H fun vs H1=>vs.length≤sizeLine∧E (.ref C) none H1
theorem AY(Fn:ExcBaseFacts Bn NZ inN Xv)(Wr:Sv.contains (.type Bn)=true)(FB:ExcBaseFacts B nid Rg Sv)(ok:W.excIn X.K C Sv NZ=true)(hg:Gl X x)(hm:X.mg x=some (.ref C))(hc:X.calm=true)(l:Lv X E)
  (ha:PA X (e0::es) ta) (Ql:nD0 x:=by decide) (he:starEach (e0::es) X.env=(false,eval e0 X.env)::starEach es X.env:=by rfl) (Oc:(backTo Oe (starEach es X.env)).any (·.1)=false:=by rfl):
  PS X (.Raise (some (.Call (.Name x np) (e0::es) [] Oe)) none pos) (Gr C E ta):=by
 intro pins s σ H D I h;obtain⟨bm,N,nm,q,bs,hdct,sn,sub,ab,col,dd,k0,k1,k2,k3,k5,mN,hC,hN,hni,T⟩:=Cy I.mod.Px ok;have step:=ha Oe pins s σ H _ I h
 refine wpAny_Raise_call_subU (C:=C) (nm:=nm) (q:=q) (N:=N) (bs:=bs) (bm:=bm) (hdct:=hdct) (sn:=sn) (sub:=sub) (ab:=ab) (col:=col) (dd:=dd) (k0:=k0) (k1:=k1) (k2:=k2) (k3:=k3) (k5:=k5)
  Fn Wr FB (mN:=mN) (T.hasType FB.hasBase) (I.ok.hd hc) ?_ hni (nM I hg hm ⟨rfl,?_⟩ Ql)
 ·rw[he];show(false||(backTo Oe (starEach es X.env)).any (·.1))=false;rw[Oc];rfl
 ·rw[he]at step ⊢;refine Calls.evalArgs_plain (I_ step ?_);rintro us s2 ⟨vs,H2,I2,r2,len,q2⟩;refine⟨rfl,?_,I2.bk _ _ hC,hN.keeps I2.bk,T.keeps I2.bk,fun h' e made=>l.2.2.2 _ _ (wj I2 l.1 l.2.1 l.2.2.1 made q2)⟩;show us.length≤sizeLine;rw[← r2.length];exact len
end
noncomputable def mR(a:Addr)(cls:Value)(dx:Option Addr):HO:=.ext fun h=>∃o vs,h.get? a=some o∧o.cls=cls∧o.data=.fields vs∧o.dict=dx
section
variable{X:Cx}{pins:List (Addr×Obj)}{σ:St}{H H':Hp}{s s':Shared}{a:Addr}{cls a0:Value}{B h2:Heap}{E:XK}{dx:Option Addr}
theorem ET(I:Inv X pins σ H s)(os:s'.os=s.os)(bare:AllBare s'.gens)(un:Un (frs X.stack) [] H H' s.heap s'.heap)(hok:Pq X.prog X.w H' s'.heap)(fl:Heap.FlyingW B X.stack a cls a0 s'.heap)(cov:Cov X.stack s.heap H' B)
  (st:B.StaysIn h2) (up:s'.heap.UpToSlots h2) (ex:∃o vs,h2.get? a=some o∧o.cls=cls∧o.data=.fields vs∧o.dict=dx):Inv X pins σ (upd H' a (mR a cls dx)) { s' with heap:=h2 }:=by
 obtain⟨c1,c2⟩:=cov
 have na:H' a=none:=by
  cases q:H' a with
  |none=>rfl
  |some u=>obtain⟨o',z⟩:=c2 a u q;rw[fl.2.1]at z;cases z
 have frD:∀b∈frs X.stack,∃o,s'.heap.get? b=some o∧∀vs,o.data≠.fields vs:=fun b hb=>(fl.2.2.1.mem hb).2
 have neA:∀b o,s.heap.get? b=some o→b≠a:=fun b o e z=>by
  subst z
  by_cases hb:b∈frs X.stack
  ·obtain⟨o1,q1,d1⟩:=frD b hb;obtain⟨oe,vs,q2,_,d2,_⟩:=fl.first;rw[q1]at q2
   cases q2
   exact d1 vs d2
  ·obtain⟨o',z⟩:=c1 b o e hb;rw[fl.2.1]at z;cases z
 have eqB:∀b o o',s'.heap.get? b=some o→B.get? b=some o'→h2.get? b=some o:=fun b o o' e z=>by
  have:=fl.1 b o' z;rw[e]at this
  cases this
  exact st b _ z
 have un2:Un (frs X.stack) [] H (upd H' a (mR a cls dx)) s.heap h2:=by
  refine⟨fun b o e n hb hx=>?_,fun b o e n hb hx=>?_,fun b o e n hx=>?_,fun b o e hx=>?_,fun b xs e=>?_,fun b o u e=>?_,fun b ps e=>?_⟩
  ·obtain⟨o',z⟩:=c1 b o e hb;exact eqB b o o' (un.keep b o e n hb hx) z
  ·obtain⟨sl,e1⟩:=un.slot b o e n hb hx;obtain⟨o1,q1,d1⟩:=frD b hb;rw[e1]at q1
   cases q1
   obtain⟨T9,e2⟩:=up b _ e1 d1;exact⟨T9,e2⟩
  ·rw[ai (neA b o e)];exact un.free b o e n hx
  ·by_cases hb:b∈frs X.stack
   ·obtain⟨o1,q1,d1⟩:=frD b hb;obtain⟨T9,e2⟩:=up b _ q1 d1;exact⟨_,e2⟩
   ·obtain⟨o',z⟩:=c1 b o e hb;exact⟨o',st b o' z⟩
  ·have:=un.tups b xs e;rw[ai (ar this na)];exact this
  ·have:=un.N8 b o u e;rw[ai (ar this na)];exact this
  ·obtain⟨more,z⟩:=un.QF b ps e;exact⟨more,by rw[ai (ar z na)];exact z⟩
 have aan:Pq X.prog X.w (upd H' a (mR a cls dx)) h2:=fun b u e=>by
  by_cases hb:b=a
  ·subst hb;rw[aG]at e
   cases e
   obtain⟨o,vs,q1,q2⟩:=ex;exact⟨⟨o,vs,q1,q2⟩,⟨o,q1⟩,(by rintro h1 h3 ⟨o,vs,r1,r2⟩ k;exact ⟨o,vs,k o r1,r2⟩)⟩
  ·rw[ai hb]at e;refine(hok b u e).stay (fun c v hc r=>?_) (fun c r=>?_) fun c xs r=>?_
   ·have:∃u',H' c=some u':=by
     rcases hc with rfl|hc
     ·exact⟨u,e⟩
     ·exact⟨_,hc⟩
    obtain⟨u',hu⟩:=this;obtain⟨o',z⟩:=c2 c u' hu;exact eqB c v o' r z
   ·rw[ai (ar r na)];exact r
   ·rw[ai (ar r na)];exact r
 exact I.call' (s':={ s' with heap:=h2 }) (ch:=[]) os un2 aan bare (fun b z=>absurd z (by simp))
theorem Inv.lost{m':Str→Option Value}{t':Nat}(I:Inv X pins σ H s)(ns:h2.Ns X.env.locals m')(sb:Heap.SameBut X.env.locals s.heap h2):Inv X pins (List.replicate X.N.length none) H { s with heap:=h2,toks:=t' }:=by
 obtain⟨m,⟨oL,esL,epL,hoL,rL⟩,_⟩:=id I.loc;have Z4:∀b o,X.s₀.heap.get? b=some o→b≠X.env.locals:=fun b o q=>Nat.ne_of_lt (Nat.lt_of_lt_of_le (Heap.lt_size q) I.ok.above);refine⟨I.ok,I.os,I.bare,⟨fun b o e n hb hx=>?_,fun b o e n hb hx=>?_,I.base.free,fun b o e hx=>?_,I.base.tups,I.base.N8,I.base.QF⟩,⟨m',ns,fun i x v _ e _=>?_⟩,fun x c e=>?_,I.free,I.Ol,fun p hp=>?_,fun b u e=>?_,by simp⟩
 ·exact(sb.2 b (Z4 b o e)).trans (I.base.keep b o e n hb hx)
 ·obtain⟨sl,e1⟩:=I.base.slot b o e n hb hx;exact⟨sl,(sb.2 b (Z4 b o e)).trans e1⟩
 ·obtain⟨o',e1⟩:=I.base.there b o e hx;exact⟨o',(sb.2 b (Z4 b o e)).trans e1⟩
 ·rw[List.getElem?_replicate]at e
  split at e<;>cases e
 ·obtain⟨v,o,ho,hd⟩:=I.cell x c e;exact⟨v,o,(sb.2 c (I.Wv x c e)).trans ho,hd⟩
 ·obtain⟨e,n,ne,nf,d⟩:=I.pin p hp;exact⟨(sb.2 p.1 ne).trans e,n,ne,nf,d⟩
 ·refine(I.hok b u e).stay (fun c v hc r=>(sb.2 c ?_).trans r) (fun _ r=>r) fun _ _ r=>r
  rintro rfl
  rcases hc with z|z
  ·rw[← z,I.free]at e;cases e
  ·rw[I.free]at z;cases z
end
abbrev Cx.tried(X:Cx)(pn:List (Addr×Obj))(W:Value→Shared→Prop):Cx:={ X with pn:=pn,xe:=W }
abbrev Cx.suite(X:Cx)(pn:List (Addr×Obj))(a:Addr):Cx:={ X with pn:=pn,xe:=fun _ _=>False,A:=X.A.mark (some (.ref a)),calm:=false }
section
variable{X:Cx}{pins pn:List (Addr×Obj)}{σ:St}{H:Hp}{s:Shared}{W:Value→Shared→Prop}{a:Addr}
theorem BG(k:X.Ok):(X.tried pn W).Ok:=⟨k.mod,k.kind,k.glob,k.blt,k.above,k.inj,k.has,k.cab,k.hd,k.frames,k.stk,k.Yv,k.bs,k.U7,k.Tt,k.Uh,k.QH,k.VG⟩
theorem vY(k:(X.tried pn W).Ok):X.Ok:=⟨k.mod,k.kind,k.glob,k.blt,k.above,k.inj,k.has,k.cab,k.hd,k.frames,k.stk,k.Yv,k.bs,k.U7,k.Tt,k.Uh,k.QH,k.VG⟩
theorem BH(k:X.Ok):(X.suite pn a).Ok:=⟨k.mod,k.kind,k.glob,k.blt,k.above,k.inj,k.has,k.cab,fun z=>Bool.noConfusion z,k.frames,k.stk,k.Yv,k.bs,k.U7,k.Tt,k.Uh,k.QH,k.VG⟩
theorem qK(I:Inv X pins σ H s):Inv (X.tried (X.pn++pins) W) [] σ H s:=⟨BG I.ok,I.os,I.bare,I.base,I.loc,I.cell,I.free,I.Ol,fun p hp=>I.pin p (by simpa using hp),I.hok,I.len⟩
theorem fE(k:X.Ok)(I:Inv (X.tried (X.pn++pins) W) [] σ H s):Inv X pins σ H s:=⟨k,I.os,I.bare,I.base,I.loc,I.cell,I.free,I.Ol,fun p hp=>I.pin p (by simpa using hp),I.hok,I.len⟩
theorem zB(I:Inv (X.tried pn W) [] σ H s):Inv (X.suite pn a) [] σ H s:=⟨BH (vY I.ok),I.os,I.bare,I.base,I.loc,I.cell,I.free,I.Ol,I.pin,I.hok,I.len⟩
theorem uL(k:X.Ok)(I:Inv (X.suite (X.pn++pins) a) [] σ H s):Inv X pins σ H s:=⟨k,I.os,I.bare,I.base,I.loc,I.cell,I.free,I.Ol,fun p hp=>I.pin p (by simpa using hp),I.hok,I.len⟩
theorem vB{D:pO}{f:Flow}(k:X.Ok)(h:SP (X.tried (X.pn++pins) W) [] D f s):SP X pins D f s:=by
 cases f with
 |next=>obtain⟨σ',H',I,q⟩:=h;exact⟨σ',H',fE k I,q⟩
 |brk=>obtain⟨σ',H',I,q⟩:=h;exact⟨σ',H',fE k I,q⟩
 |cont=>obtain⟨σ',H',I,q⟩:=h;exact⟨σ',H',fE k I,q⟩
 |ret u=>obtain⟨v,σ',H',I,r,q⟩:=h;exact⟨v,σ',H',fE k I,r,q⟩
end
def Hit(K:W.Frag)(T:Addr)(i n:Nat)(ts:TS)(R:VK):XK:=fun cls dx H'=>W.exmOne K cls (.ref T)=some true∧∀(a:Addr)(σ':St),σ'.length=n→H' a=none→ts { nx:=fun _ _=>False,rt:=R } (σ'.set i (some (.ref a))) (upd H' a (mR a cls dx))
def KU(K:W.Frag)(T:Addr)(i n:Nat)(tb:XK→TS)(ts:TS):TS:=fun D σ H=>tb (Hit K T i n ts D.rt) D σ H
theorem He{X:Cx}{body suite:List Stmt}{b0:Stmt}{tb:XK→TS}{ts:TS}{t n:Str}{T:Addr}{i:Nat}{tp W4 pos:Pos}(stk:X.stack=X.env::X.outer)(hf:X.env.frame=some X.env.locals)
  (hb:∀pn W Eb,eQ (Rb X.prog X.w) (X.tried pn W) Eb→Sw (X.tried pn W) body (tb Eb)) (hs:∀pn a,Sw (X.suite pn a) (b0::suite) ts)
  (hN:X.N.Nodup) (hi:X.N[i]? =some n) (hn:X.env.scope.names.lookup n=some .local) (hg:Gl X t) (hm:X.mg t=some (.ref T)) (Ql:(t==("__debug__":Str))=false:=by decide):
  PS X (.Try body [.ExceptHandler (some (.Name t tp)) (some n) (b0::suite) W4] [] [] pos) (KU X.K T i X.N.length tb ts):=by
 intro pins s σ H D I h
 let W:Value→Shared→Prop:=fun e s1=>∃(a:Addr)(cls a0:Value)(B:Heap)(σ':St)(H':Hp)(dx:Option Addr),e=.ref a∧Heap.FlyingW B X.stack a cls a0 s1.heap∧H' a=none∧nC s1.heap a dx∧Hit X.K T i X.N.length ts D.rt cls dx H'∧
  ∀h2,B.StaysIn h2→s1.heap.UpToSlots h2→(∃o vs,h2.get? a=some o∧o.cls=cls∧o.data=.fields vs∧o.dict=dx)→Inv X pins σ' (upd H' a (mR a cls dx)) { s1 with heap:=h2 }
 have pas:eQ (Rb X.prog X.w) (X.tried (X.pn++pins) W) (Hit X.K T i X.N.length ts D.rt):=by
  intro M5 σ' H1 s0 e s1 I1 c;obtain⟨a,cls,a0,B,H',dx,rfl,os,bare,un,hok,fl,cov,da,q⟩:=c
  have na:H' a=none:=by
   cases z:H' a with
   |none=>rfl
   |some u=>obtain⟨o',y⟩:=cov.2 a u z;rw[fl.2.1]at y;cases y
  exact⟨a,cls,a0,B,σ',H',dx,rfl,fl,na,da,q,fun h2 st up ex=>fE I.ok ((ET I1 os bare un hok fl cov st up ex).NQ (M5:=[]) (fun p hp=>absurd hp (by simp)))⟩
 refine wpAny_Try_except (wpAny_mono (hb _ W _ pas [] s σ H D (qK I) h) (fun f s1 q=>?_) fun e s1 q=>?_)
 ·have q:=vB I.ok q
  cases f with
  |next=>exact wpAny_execs_nil q
  |brk=>exact q
  |cont=>exact q
  |ret u=>exact q
 ·obtain⟨a,cls,a0,B,σ',H',dx,rfl,fl,na,da,⟨hx,go⟩,XF⟩:=q;have W8:X.A.frames=some (X.env::X.outer):=by rw[I.ok.frames,stk]
  rw[stk]at fl;refine Cj (lG _ _) da (wpAny_looks_onW W8 hf fl fun h4 held up4 d4=>?_);refine Cj (iH _ _) d4 (wpAny_landsW held fun h5 fl5 up5 d5=>?_)
  have Vl:∃o vs,h5.get? a=some o∧o.cls=cls∧o.data=.fields vs∧o.dict=dx:=by
   obtain⟨oe,vs,q1,q2,q3,_⟩:=fl5.first;obtain⟨o',y1,y2⟩:=d5;dsimp only at y1;rw[q1]at y1
   cases y1
   exact⟨oe,vs,q1,q2,q3,y2⟩
  have I5:=XF h5 fl5.1 (up4.trans up5) Vl;refine wpAny_handleBy_cons (codeAny_handlers_test (Calls.Name_function_global I.ok.kind hg (Calls.loadGlobal_global (by rw[I.ok.glob];exact I.ok.mod.glob.keeps I5.bk) hm ?_) Ql)) (by intro z;cases z)
  have LT:PySem.W.Looks (model X.prog X.w) h5 (typeOf (.ref a)) cls:=by obtain⟨o,vs,q1,q2,_⟩:=Vl;subst q2;exact(PySem.W.Looks.ld q1).andThen .now
  refine PySem.W.Looks.here (s:={ s1 with heap:=h5 }) (PySem.W.exm_one (K:=X.K) I5.RJ LT hx) ?_;refine codeAny_handlers_suite_as ?_;refine Cj (iH _ _) d5 (lands_againW fl5 fun h6 fl6 up6 d6=>?_)
  have Xj:∃o vs,h6.get? a=some o∧o.cls=cls∧o.data=.fields vs∧o.dict=dx:=by
   obtain⟨oe,vs,q1,q2,q3,_⟩:=fl6.first;obtain⟨o',y1,y2⟩:=d6;dsimp only at y1;rw[q1]at y1
   cases y1
   exact⟨oe,vs,q1,q2,q3,y2⟩
  have I6:=XF h6 fl6.1 ((up4.trans up5).trans up6) Xj;have I6s:Inv (X.suite (X.pn++pins) a) [] σ' (upd H' a (mR a cls dx)) { s1 with heap:=h6 }:=zB (W:=X.xe) (qK I6);refine oq (X:=X.suite (X.pn++pins) a) I6s hN hi (.inl hn) (v:=.ref a) rfl (fun s7 I7=>?_) (.inr hn);refine wpAny_mono (hs _ a [] s7 _ _ { nx:=fun _ _=>False,rt:=D.rt } I7 (go a σ' I6.len na)) (fun f s8 q=>?_) fun e s8 z=>z.elim
  cases f with
  |next=>obtain⟨_,_,_,z⟩:=q;exact z.elim
  |brk=>obtain⟨_,_,_,z⟩:=q;exact z.elim
  |cont=>obtain⟨_,_,_,z⟩:=q;exact z.elim
  |ret u=>obtain⟨v,σ8,H8,I8,r8,q8⟩:=q;have J8:=uL I.ok I8;obtain⟨m8,ns8,_⟩:=id J8.loc;refine wpAny_nameGoes hn ns8 (by rw[I.ok.kind];rfl) fun h9 m9 ns9 sb=>?_;exact⟨v,_,H8,J8.lost ns9 sb,r8,q8⟩
open PySem.W PySem.Builtin PySem.Builtin.ObjectAttr PySem.Builtin.Getset_descriptor
structure tF(K:Frag)(C:Addr):Prop where
 ga:findIn K (.ref C) "__getattribute__"=some (some (.builtin "BaseException.__getattribute__"))
 gt:findIn K (.ref C) "__getattr__"=some none
 mb:mroIn K C (.type "BaseException")=some true
section
variable{prog:Program}{w:World}{A:Around}{E:Value→Shared→Prop}{K:Frag}{x C:Addr}{name:Str}{tk:Tok}{s:Shared}
theorem Do{r:Found}{Q:Fin→Shared→Prop}(L0:Looks (model prog w) s.heap (typeOf (.ref x)) (.ref C))(L1:Looks (model prog w) s.heap (find (.ref x) (.ref C) name) r)
  (h:match r with
   |.value v=>Q (.done (.ret v)) s
   |.bind g a=>wpAny (model prog w) A (bindTo g a (.ref x) (.ref C)) Q E s
   |.missing=>False):wpAny (model prog w) A (Builtin.«object.__getattribute__» ⟨[.ref x,.str name tk],[]⟩) Q E s:=by
 obtain⟨hh,g,d,t,os⟩:=s;refine wpAny_bind (wpAny_pure (wpAny_bind (wpAny_pure (wpAny_bind (L0.at (wpAny_bind (L1.at ?_)))))))
 cases r with
 |value v=>exact wpAny_pure h
 |bind g a=>exact h
 |missing=>exact h.elim
theorem KP{fill expr:Bool}{Q:Value→Shared→Prop}(c:tF K C)(Px:K.In s.heap)(L0:Looks (model prog w) s.heap (typeOf (.ref x)) (.ref C))
  (h:codeAny (model prog w) A (.call (.builtin "BaseException.__getattribute__") ⟨[.ref x,.str name tk],[]⟩) (fun r s'=>match r with|.ok (.ret v)=>handedIn v=true∧Q v s'|_=>False) s):
  wpAny (model prog w) A (getAttrBy (.ref x) (.str name tk) fill expr) Q E s:=by
 obtain⟨hh,g,d,t,os⟩:=s;have L1:=looks_findIn (M:=model prog w) Px c.ga;have L2:=looks_findIn (M:=model prog w) Px c.gt
 have no:(onTheHeap (Value.ref C)&&Value.builtin "BaseException.__getattribute__"==Value.builtin "object.__getattribute__")=false:=by rw[show(Value.builtin "BaseException.__getattribute__"==Value.builtin "object.__getattribute__")=false by decide+kernel];rfl
 have no2:(expr&&onTheHeap (Value.builtin "BaseException.__getattribute__"))=false:=by cases expr<;>rfl
 unfold getAttrBy;refine wpAny_holding (wpAny_bind (L0.at (wpAny_bind (L1.at ?_))));dsimp only;rw[no,if_neg (by decide)];unfold getAttrByItsOwn callGetattribute boundAndCalled;rw[no2,if_neg (by decide)];refine wpAny_bind (L2.at (wpAny_bind (wpAny_attempt (wpAny_holding ?_))));rw[PySem.F.attr_ValueError.ga.bind];refine wpAny_bind (wpAny_pure (wpAny_call (codeAny_mono h fun r s' z=>?_)))
 cases r with
 |error e=>exact z.elim
 |ok f=>cases f with
  |ret v=>exact handed_on z.1 z.2
  |next=>exact z.elim
  |brk=>exact z.elim
  |cont=>exact z.elim
theorem Gh{R:Result→Shared→Prop}(c:tF K C)(Px:K.In s.heap)(L0:Looks (model prog w) s.heap (typeOf (.ref x)) (.ref C))
  (h:wpAny (model prog w) A.in1 (Builtin.«object.__getattribute__» ⟨[.ref x,.str name tk],[]⟩) (fun fin s'=>match fin with|.done f=>R (.ok f) s'|.again c'=>c'.quiet=true∧codeAny (model prog w) A c' R s') (fun e s'=>R (.error e) s') s):
  codeAny (model prog w) A (.call (.builtin "BaseException.__getattribute__") ⟨[.ref x,.str name tk],[]⟩) R s:=by
 have k1:builtinKind "BaseException.__getattribute__"=some .slot:=by decide+kernel
 have k2:splitId "BaseException.__getattribute__"=some ("BaseException","__getattribute__"):=by decide+kernel
 have isB:Looks (model prog w) s.heap (isInstance (.ref x) (.type "BaseException")) true:=L0.andThen (looks_mroIn Px c.mb);refine codeAny_call_builtin PySem.F.attr_ValueError.ga.plain PySem.F.entry_bexc_ga (@check_slot (model prog w) _ _ s "BaseException.__getattribute__" "BaseException" "__getattribute__" (.ref x) [.str name tk] [] _ k1 k2 isB (PySem.F.args_bexc_ga (.ref x) (.str name tk)) ?_);exact h
theorem Gg{R:Result→Shared→Prop}{tp:Value}(Px:K.In s.heap)(L0:Looks (model prog w) s.heap (typeOf (.ref x)) (.ref C))(mo:mroIn K C (.type "object")=some true)(fin:R (.ok (.ret (.ref C))) s):
  codeAny (model prog w) A (.call (.builtin "getset_descriptor.__get__") ⟨[.builtin "object.__class__",.ref x,tp],[]⟩) R s:=by
 obtain⟨hh,g,d,t,os⟩:=s;have L1:=looks_mroIn (M:=model prog w) Px mo;refine codeAny_call_builtin (id KF.slot_gs.plain) (id KF.entry_gs) (KF.slot_gs.check _ _ _ _ _ _ _ _ (id KF.type_class) (id (KF.args_gs _ _ _)) ?_);show wpAny (model prog w) A.in1 (descrGet _) _ _ _;unfold descrGet;rw[dga_obj];refine wpAny_bind (wpAny_pure ?_);simp only[descrGetter,descrCheckInstance,descrNameAndClass,isInstance,KF.owner_class]
 (repeat lk)
 refine⟨Code.quiet_builtin _ (id (by decide+kernel)),codeAny_builtin (id KF.entry_class) ?_⟩;simp only[Builtin.«object.__class__»,shownTypeOf]
 (repeat lk)
 exact fin
theorem Dp{Q:Option Value→Shared→Prop}(c:tF K C)(Px:K.In s.heap)(L0:Looks (model prog w) s.heap (typeOf (.ref x)) (.ref C))
  (fc:findIn K (.ref C) "__class__"=some (some (.builtin "object.__class__"))) (fg:specialIn K (.builtin "object.__class__") "__get__"=some (some (.builtin "getset_descriptor.__get__"))) (ft:takesIn K (.builtin "object.__class__")=some true)
  (mo:mroIn K C (.type "object")=some true) (h:Q (some (.ref C)) { s with toks:=s.toks+1 }):
  wpAny (model prog w) A (getAttr? (.ref x) "__class__") Q E s:=by
 have Lf:Looks (model prog w) s.heap (find (.ref x) (.ref C) "__class__") (.bind (.builtin "getset_descriptor.__get__") (.builtin "object.__class__")):=by refine(looks_findIn Px fc).andThen ((show Looks (model prog w) s.heap (getOf (some (.builtin "object.__class__"))) _ from looks_specialIn Px fg).andThen ?_);exact(show Looks (model prog w) s.heap (dataDescriptor? (some (.builtin "object.__class__")) (some (.builtin "getset_descriptor.__get__"))) (some (.builtin "getset_descriptor.__get__",.builtin "object.__class__"))from(looks_takesIn Px ft).andThen .now).andThen (Looks.tag .now)
 refine wpAny_bind (wpAny_mkText (wpAny_bind (wpAny_attempt (KP (s:={ s with toks:=s.toks+1 }) c Px L0 (Gh (s:={ s with toks:=s.toks+1 }) c Px L0 (Do (s:={ s with toks:=s.toks+1 }) L0 Lf ?_))))));show wpAny _ _ (holding [Value.builtin "object.__class__"] (call (.builtin "getset_descriptor.__get__") [.builtin "object.__class__",.ref x,.ref C]) >>= ret) _ _ _;exact wpAny_bind (wpAny_holding (wpAny_call (Gg (s:={ s with toks:=s.toks+1 }) Px L0 mo (wpAny_pure ⟨rfl,wpAny_pure h⟩))))
end
noncomputable def vo:List Value→Bool
 |.ref _::r=>vo r
 |l=>l==[.type "ValueError",.type "Exception",.type "BaseException",.type "object"]
theorem im:∀{l:List Value},vo l=true→l= [.type "ValueError",.type "Exception",.type "BaseException",.type "object"]∨∃c r,l=.ref c::r∧vo r=true:=by
 intro l e;unfold vo at e
 split at e
 ·exact .inr ⟨_,_,rfl,e⟩
 ·exact .inl (beq_iff_eq.mp e)
theorem tS(self:Value):∀(l:List Value),vo l=true→refuseLoop self "__setattr__" l=pure ():=by
 intro l
 induction l with
 |nil=>intro e;rcases im e with z|⟨_,_,z,_⟩<;>cases z
 |cons x r ih=>
  intro e;rcases im e with z|⟨c,r',z,e'⟩
  ·rw[z];exact PySem.F.store_ValueError.passes self
  ·cases z;rw[refuseLoop_ref];exact ih e'
theorem tV:∀(l:List Value),vo l=true→l.contains (.type "object")=true:=by
 intro l
 induction l with
 |nil=>intro e;rcases im e with z|⟨_,_,z,_⟩<;>cases z
 |cons x r ih=>
  intro e;rcases im e with z|⟨c,r',z,e'⟩
  ·rw[z];decide+kernel
  ·cases z;rw[List.contains_cons,ih e',Bool.or_true]
def Gj(K:Frag)(C:Addr):Bool:=(clsIn K C).any fun cd=>cd.hasDict&&vo cd.mro
noncomputable def wX(K:Frag)(C:Addr)(Sv:List Value)(NZ:String):Bool:=match K.lookup C with
 |some ⟨.type "type",_,.cls cd,sl⟩=>(match cd.mro,sl.toList with
  |.ref C'::bm,[_,_,_,_,some (.builtin n),_]=>C'==C&&(n==NZ&&(!cd.hasDel&&tailIn K Sv bm))
  |_,_=>false)
 |_=>false
theorem tN{K:Frag}{h:Heap}{C:Addr}{Sv:List Value}{NZ:String}(Px:K.In h)(ok:wX K C Sv NZ=true):
  ∃bm N nm q bs hdct sn sub ab col dd k0 k1 k2 k3 k5,h.get? C=some (excClassObj nm q C N bs bm hdct sn sub ab col dd k0 k1 k2 k3 k5 NZ)∧OwnTail h Sv bm:=by
 unfold wX at ok
 split at ok
 case h_2=>exact absurd ok (by decide)
 case h_1 dict Xl ZP lk=>
  split at ok
  case h_2=>exact absurd ok (by decide)
  case h_1 C2 tl f0 f1 f2 f3 nid f5 em es=>
   rw[ab1,ab1,ab1]at ok;obtain⟨z1,z2,z3,z4⟩:=ok;rw[Bool.not_eq_true']at z3;have Xk:ZP= #[f0,f1,f2,f3,some (.builtin nid),f5]:=Array.toList_inj.mp es
   cases beq_iff_eq.mp z1
   cases beq_iff_eq.mp z2
   rcases Xl with⟨c1,c2,c3,c4,c5,c6,c7,c8,c9,c10,c11⟩
   change c3=_ at em;change c11=false at z3;subst em z3 Xk;exact⟨tl,c4,c1,c5,c2,c6,c7,c8,c9,c10,dict,f0,f1,f2,f3,f5,Px _ _ lk,tail_of_in Px z4⟩
section
variable{prog:Program}{w:World}{A:Around}{E:Value→Shared→Prop}{h:Heap}{g:Array GenState}{d:Drawn}{t:Nat}{os:OsState}
variable{nm q:Str}{C N fI:Addr}{bs bm Sv Xv us:List Value}{hdct:Bool}{sn:List Str}{sub:List Value}{ab:Bool}{col:Option Bool}{dd:Option Addr}{k0 k1 k2 k3 k5:Option Value}{B Bn NZ nid Rg inN:String}{oI:Obj}
noncomputable def iX(h:Heap)(C:Addr)(us:List Value):Heap:=
 (h.push { cls:=.type "tuple",data:=.seq us.toArray }).push { cls:=.ref C,data:=.fields #[.ref h.objs.size,.none,.none,.none,.bool false,.none] }
theorem gx{b:Addr}{o:Obj}(e:h.get? b=some o):(iX h C us).get? b=some o:=Heap.get?_push_of_some _ (Heap.get?_push_of_some _ e)
theorem lV:(iX h C us).get? (h.objs.size+1)=some { cls:=.ref C,data:=.fields #[.ref h.objs.size,.none,.none,.none,.bool false,.none] }:=by unfold iX;heap_get
theorem Dn{Q:Fin→Shared→Prop}(Fn:ExcBaseFacts Bn NZ inN Xv)(Wr:Sv.contains (.type Bn)=true)(FB:ExcBaseFacts B nid Rg Sv)(T:OwnTail h Sv bm)
  (hc:h.get? C=some (excClassObj nm q C N bs bm hdct sn sub ab col dd k0 k1 k2 k3 k5 NZ)) (li:∀h',(∀b o,h.get? b=some o→h'.get? b=some o)→Looks (model prog w) h' (typeLookup (.ref C) "__init__") (some (.ref fI)))
  (fo:h.get? fI=some oI) (fc:oI.cls=.type "function") (len:us.length≤sizeLine)
  (go:wpAny (model prog w) A (call (.ref fI) (.ref (h.objs.size+1)::us)) (fun r s'=>r=.none∧Q (.done (.ret (.ref (h.objs.size+1)))) s') E ⟨iX h C us,g,d,t,os⟩):
  wpAny (model prog w) A (Builtin.«type.__call__» ⟨.ref C::us,[]⟩) Q E ⟨h,g,d,t,os⟩:=by
 repeat (first|with_reducible refine wpAny_madeBy_exc hc ?_|with_reducible refine wpAny_loadPart_at hc ?_|wp_step)
 refine codeAny_call_builtin_code (Code.quiet_builtin _ Fn.quiet) (wpAny_check_new_subU Fn Wr T hc (codeAny_exc_new_subU Fn Wr FB T hc ?_ len));change wpAny _ _ _ _ _ _;have Vi:(Value.ref C::bm).contains (.ref C)=true:=by rw[List.contains_cons];simp
 have c1:(iX h C us).get? C=some (excClassObj nm q C N bs bm hdct sn sub ab col dd k0 k1 k2 k3 k5 NZ):=gx hc;have e1:=lV (h:=h) (C:=C) (us:=us);have L:=li (iX h C us) fun b o e=>gx e;have f1:(⟨iX h C us,g,d,t,os⟩:Shared).TypeIs (.ref fI) "function":=⟨_,gx fo,fc⟩
 change wpAny _ _ _ _ _ ⟨iX h C us,g,d,t,os⟩;unfold isInstance
 repeat (first|(with_reducible refine wpAny_isSubtype_exc c1 ?_;rw[Vi])|with_reducible refine wpAny_loadPart_at e1 ?_|wp_step)
 change wpAny _ _ (typeLookup (.ref C) _) _ _ _;refine L.at ?_;refine wpAny_holding (wpAny_bind ?_);unfold bindSpecial;refine wpAny_bind (wpAny_typeOf f1 ?_);rw[if_pos (by decide)];refine wpAny_pure (wpAny_bind (wpAny_mono go (fun r s' z=>?_) fun _ _ z=>z));obtain⟨rfl,z⟩:=z
 wp_walk
 exact z
theorem Gf{Q:Value→Shared→Prop}(Fn:ExcBaseFacts Bn NZ inN Xv)(Wr:Sv.contains (.type Bn)=true)(FB:ExcBaseFacts B nid Rg Sv)(T:OwnTail h Sv bm)
  (hc:h.get? C=some (excClassObj nm q C N bs bm hdct sn sub ab col dd k0 k1 k2 k3 k5 NZ)) (li:∀h',(∀b o,h.get? b=some o→h'.get? b=some o)→Looks (model prog w) h' (typeLookup (.ref C) "__init__") (some (.ref fI)))
  (fo:h.get? fI=some oI) (fc:oI.cls=.type "function") (len:us.length≤sizeLine)
  (go:wpAny (model prog w) (A.under (.builtin "type.__call__" ⟨.ref C::us,[]⟩)) (call (.ref fI) (.ref (h.objs.size+1)::us)) (fun r s'=>r=.none∧Q (.ref (h.objs.size+1)) s') E ⟨iX h C us,g,d,t,os⟩):
  wpAny (model prog w) A (call (.ref C) us) Q E ⟨h,g,d,t,os⟩:=by
 have g1:=tc_lookup;have g2:=tc_bind (.ref C);have ty:(⟨h,g,d,t,os⟩:Shared).TypeIs (.ref C) "type":=⟨_,hc,rfl⟩
 refine wpAny_call (codeAny_of_tree ?_);change wpAny _ _ (callAny (.ref C) _) _ _ _
 repeat (any_goals (first|with_reducible refine wpAny_loadPart_at hc ?_|assumption|wp_step))
 refine⟨rfl,codeAny_call_builtin_at (Code.quiet_builtin _ (by decide+kernel)) entry_typeCall (wpAny_check_type_call_sub hc (Dn Fn Wr FB T hc li fo fc len go))⟩
end
noncomputable def gh(h:Heap)(x:Addr):Heap:=(h.push { cls:=.type "dict",data:=.dict #[] }).update x fun o=> { cls:=o.cls,dict:=some h.objs.size,data:=o.data,slots:=o.slots }
section
variable{prog:Program}{w:World}{A:Around}{E:Value→Shared→Prop}{K:Frag}{x C:Addr}{ox:Obj}{name:Str}{tk:Tok}{v:Value}{s:Shared}
theorem zX{h:Heap}(hx:x<h.objs.size):(gh h x).get? h.objs.size=some { cls:=.type "dict",data:=.dict #[] }:=by unfold gh;rw[Heap.get?_update_ne _ _ _ _ (Nat.ne_of_gt hx)];exact Heap.get?_push_at rfl rfl
theorem IB{R:Result→Shared→Prop}(Px:K.In s.heap)(I:W.InstAt s.heap x ox C none)(hdn:ox.dict=none)(vc:Gj K C=true)(ha:findIn K (.ref C) name=some none)
  (go:∀h',h'.Ns1 s.heap.objs.size (fun y=>if y=name then some v else none)→Heap.SameBut s.heap.objs.size (gh s.heap x) h'→R (.ok (.ret .none)) { s with heap:=h',toks:=s.toks+1 }):
  codeAny (model prog w) A (.call (.builtin "object.__setattr__") ⟨[.ref x,.str name tk,v],[]⟩) R s:=by
 obtain⟨cd,hc,hv⟩:=any_some vc;rw[ab1]at hv
 have ne:cd.mro.isEmpty=false:=by
  cases z:cd.mro with
  |nil=>rw[z]at hv;exact absurd (tV _ hv.2) (by decide)
  |cons _ _=>rfl
 have isO:Looks (model prog w) s.heap (isInstance (.ref x) (.type "object")) true:=I.type.andThen (looks_mroIn Px (by unfold mroIn;rw[hc,Option.bind_some,if_neg (by rw[ne];decide),tV _ hv.2]));have hm:Looks (model prog w) s.heap (mroOf (.ref C)) cd.mro:=(looks_clsIn Px hc).andThen .now;refine codeAny_call_builtin PySem.F.store_object.slot.plain PySem.F.store_object.entry (@check_slot (model prog w) _ _ s "object.__setattr__" "object" "__setattr__" (.ref x) [.str name tk,v] [] _ PySem.F.store_object.kind PySem.F.store_object.split isO (PySem.F.store_object.args (.ref x) (.str name tk) v) ?_);rw[osa_eq,refuse_eq];refine wpAny_bind (wpAny_bind (I.type.here (wpAny_bind (hm.here ?_))));rw[tS _ _ hv.2];refine wpAny_pure (wpAny_bind (I.type.here (wpAny_bind ((looks_findIn Px ha).here (wpAny_bind (wpAny_pure (a:=none) ?_))))));obtain⟨hx,Wb,hn, -⟩:=I;obtain⟨oc,odi,oda,Rz⟩:=ox;dsimp only at Wb hdn;subst Wb hdn;refine wpAny_bind (wpAny_pure (wpAny_bind (wpAny_bind (wpAny_loadPart hx (wpAny_bind ((looks_clsIn Px hc).here ?_))))));rw[hv.1,if_neg (by decide)];dsimp only;rw[if_neg (by simp[typeHasDict])]
 split
 ·cases hn
 ·have x1:(s.heap.push { cls:=.type "dict",data:=.dict #[] }).get? x=some { cls:=.ref C,data:=oda,slots:=Rz }:=Heap.get?_push_of_some _ hx;refine wpAny_bind (wpAny_alloc' (wpAny_bind (wpAny_update' x1 (wpAny_pure ?_))));show wpAny _ _ (storeInDict s.heap.objs.size (.str name tk) name v) _ _ { s with heap:=gh s.heap x };have e0:(gh s.heap x).Ns s.heap.objs.size (fun _=>none):=⟨_, #[],_,zX (Heap.lt_size hx),rfl,fun e he=>absurd he (by simp),fun _=>rfl⟩
  unfold storeInDict newKeyGuard;refine wpAny_bind (wpAny_pure (wpAny_bind (wpAny_nsSet1 (s:={ s with heap:=gh s.heap x }) (Heap.Ns1.of_empty e0) fun h' n1 sb=>?_)));obtain⟨oD,esD,epD,hoD,hdD,hcD⟩:=n1.count (PySem.Within.cons name v PySem.Within.nil);refine wpAny_bind (wpAny_lookBehind hoD (by rw[hdD];exact pastItsLine_dict (Nat.le_trans hcD (by rw[sizeLine_eq,List.length_singleton];decide))) ?_);exact wpAny_pure (go h' n1 sb)
end
def Fr0(vs:Array Value):Prop:=∃t:Addr,vs= #[.ref t,.none,.none,.none,.bool false,.none]
noncomputable def vj(a:Addr)(cls:Value):HO:=.ext fun h=>∃o vs,h.get? a=some o∧o.cls=cls∧o.data=.fields vs∧o.dict=none∧Fr0 vs
noncomputable def pN(a:Addr)(cls:Value)(dx:Addr):HO:=.ext fun h=>∃o vs,h.get? a=some o∧o.cls=cls∧o.data=.fields vs∧o.dict=some dx∧Fr0 vs
noncomputable def Uj(dx:Addr)(f:Str)(y:V):HO:=.ext fun h=>∃mA u,h.Ns1 dx mA∧mA f=some u∧bn y u
noncomputable def ME(a:Addr):HO:=.ext fun h=>∃o,h.get? a=some o
structure Wx(K:Frag)(C fI:Addr)(f:Str):Prop where
 lies:wX K C [.type "ValueError",.type "Exception",.type "BaseException",.type "object"] "ValueError.__new__"=true
 init:findIn K (.ref C) "__init__"=some (some (.ref fI))
 fn:isFn K (.ref fI)=true
 kp:keepIn K (.ref C)=true
 v:Gj K C=true
 sa:findIn K (.ref C) "__setattr__"=some (some (.builtin "object.__setattr__"))
 no:findIn K (.ref C) f=some none
 hd:hasDictIn K C=true
 x:tF K C
section
variable{X:Cx}{pins:List (Addr×Obj)}{σ:St}{H:Hp}{s:Shared}{a C dx fI:Addr}{f:Str}{y:V}{u:Value}{A:Around}{E:Value→Shared→Prop}
theorem Ai{H:Hp}{a b:Addr}{o o' t:HO}(ne:a≠b):upd (upd (upd H b t) a o) b o'=upd (upd H a o) b o':=by
 funext c
 unfold upd
 by_cases h1:c=b
 ·simp[h1]
 ·simp[h1]
theorem Dm{Q:Unit→Shared→Prop}(I:Inv X pins σ H s)(e:H a=some (vj a (.ref C)))(c:Wx X.K C fI f)(ry:bn y u)
  (go:∀dx s',H dx=none→a≠dx→Inv X pins σ (upd (upd H a (pN a (.ref C) dx)) dx (Uj dx f y)) s'→Q () s'):wpAny (model X.prog X.w) A (setAttr (.ref a) f u) Q E s:=by
 obtain⟨⟨o,vs,ho,Wb,Yr,Yp,f0⟩,_,_⟩:=(show bE X.prog X.w H s.heap a (vj a (.ref C))from I.hok a _ e)
 have J:W.InstAt s.heap a o C none:=⟨ho,Wb,by unfold notCls;rw[Yr],by rw[Yp];exact True.intro⟩
 refine set_plain I.RJ J c.sa (IB (s:={ s with toks:=s.toks+1 }) I.RJ J Yp c.v c.no fun h' ns sb=>?_);have lt:a<s.heap.objs.size:=Heap.lt_size ho;have ne:a≠s.heap.objs.size:=Nat.ne_of_lt lt;have hp:(s.heap.push { cls:=.type "dict",data:=.dict #[] }).get? a=some o:=Heap.get?_push_of_some _ ho
 have hu:(gh s.heap a).get? a=some { cls:=o.cls,dict:=some s.heap.objs.size,data:=o.data,slots:=o.slots }:=by
  unfold gh;refine Heap.get?_update_self _ hp ?_;have fr:=(Heap.get?_some_iff.mp ho).2;obtain⟨oc,od,X4,Rz⟩:=o
  cases X4<;>first|rfl|exact fr
 have hk:∀b q,b≠a→(s.heap.push { cls:=.type "dict",data:=.dict #[] }).get? b=some q→(gh s.heap a).get? b=some q:=fun b q hb z=>by unfold gh;rw[Heap.get?_update_ne _ _ _ _ hb];exact z
 have I1:=I.laid (a:=s.heap.objs.size) (o:=ME s.heap.objs.size) (h':=s.heap.push { cls:=.type "dict",data:=.dict #[] }) (t':=s.toks) (fun b q z=>Heap.get?_push_of_some _ z) (ab2 _)
  ⟨⟨_,Heap.get?_push_at rfl rfl⟩,⟨_,Heap.get?_push_at rfl rfl⟩,(by rintro h1 h2 ⟨o,z⟩ k;exact ⟨o,k o z⟩)⟩
 have I2:=I1.write (x:=a) (e:=a) (o:=pN a (.ref C) s.heap.objs.size) (h':=gh s.heap a) (t':=s.toks) (by rw[ai ne,e];exact True.intro) (.inl rfl) hk ⟨_,hu⟩
  ⟨⟨_,vs,hu,Wb,Yr,rfl,f0⟩,⟨_,hu⟩,(by rintro h1 h2 ⟨o,vs,z,r⟩ k;exact ⟨o,vs,k o z,r⟩)⟩
 have nu:∃q,h'.get? s.heap.objs.size=some q:=let⟨q,_,_,z,_⟩:=ns;⟨q,z⟩
 have I3:=I2.write (x:=s.heap.objs.size) (e:=s.heap.objs.size) (o:=Uj s.heap.objs.size f y) (h':=h') (t':=s.toks+1+1) (by rw[ai (Ne.symm ne),aG];exact True.intro) (.inl rfl) (fun b q hb z=>(sb.2 b hb).trans z) nu
  ⟨⟨_,u,ns,by rw[if_pos rfl],ry⟩,nu,(by rintro h1 h2 ⟨mA,u',⟨od,es,ep,z,r⟩,r2⟩ k;exact ⟨mA,u',⟨od,es,ep,k _ z,r⟩,r2⟩)⟩
 rw[Ai ne]at I3;exact go _ _ (I.hok.fresh (ab2 _)) ne I3
end
def Fr(K:Frag)(f:Str)(ta tv:TE):TS:=fun D σ H=>tv σ H fun y H1=>ta σ H1 fun x H2=>∃a C fI,x=.ref a∧H2 a=some (vj a (.ref C))∧Wx K C fI f∧∀dx,H2 dx=none→a≠dx→D.nx σ (upd (upd H2 a (pN a (.ref C) dx)) dx (Uj dx f y))
section
variable{X:Cx}{o value:Expr}{f:Str}{pos pos':Pos}{ta tv:TE}
theorem DS(ha:PE X o ta)(hv:PE X value tv)(hs:swapsWith value (some (.Attribute o f pos')) pos.line X.env=pure false):PS X (.Assign [.Attribute o f pos'] value pos) (Fr X.K f ta tv):=by intro pins s σ H D I h;refine plainObj_wpAny_Assign_Attribute (I_ (hv pins s σ H _ I h) fun u s1 ⟨y,H1,I1,ry,q⟩=>I_ (ha pins s1 σ H1 _ I1 q) ?_) hs;rintro ov s2 ⟨x,H2,I2,rx,a,C,fI,ex,ea,c,q2⟩;subst ex;obtain rfl:ov=Value.ref a:=rx;exact Dm I2 ea c ry fun dx s3 nd ne I3=>⟨σ,_,I3,q2 dx nd ne⟩
end
def vC(K:Frag)(f:Str):Sp:=fun vs H Q _=>∃a C fI y,vs= [.ref a,y]∧H a=some (vj a (.ref C))∧Wx K C fI f∧∀dx,H dx=none→a≠dx→Q .non (upd (upd H a (pN a (.ref C) dx)) dx (Uj dx f y))
theorem Aq{K:Frag}{f:Str}{vs:List V}{H:Hp}{Q:VK}{E:XK}(h:vC K f vs H Q E):vs.length=2:=by obtain⟨_,_,_,_,rfl,_⟩:=h;rfl
theorem Cr{P:Program}{w:World}{K:Frag}{mg:Str→Option Value}{base:Heap}{x C_ f:Str}{st:Stmt}{fI:Addr}{fd:FuncData}{N ps:List Str}(Fn:U9 K x C_ st fI fd)(Sc:gM N ps (aK st))(hl:ps.length=2)
  (hb:∀(K9:Value)(A:Around)(outer:List Env)(s:Shared)(H:Hp)(E:XK),Sw (jy QT P w K mg base N C_ (aK st) fI K9 A outer s H E) (cO st) (Fr K f (Dt 0) (Dt 1))):
  cP P w K mg base QT 1 fI fd ps (vC K f):=by
 obtain⟨oc,od,kV,doc,pm,an,K9,ct,Rz,rfl,lk,RK⟩:=Fn.ex;refine Ct lk RK Sc (fun vs H Q E h=>(Aq h).trans hl.symm) fun A outer s H vs Q E hr h=>⟨_,hb K9 A outer s H E,?_⟩
 obtain⟨a,C,fI',y,rfl,ea,c,q⟩:=h;exact⟨y,rfl,.ref a,rfl,a,C,fI',rfl,ea,c,q⟩
section
variable{X:Cx}{C fI:Addr}{fd:FuncData}{ps:List Str}{f x:Str}{e:Expr}{pos p apos:Pos}{ta:TA}
theorem yQ{pins:List (Addr×Obj)}{σ:St}{H:Hp}{s:Shared}{Q:Value→Shared→Prop}{u:Value}{y:V}(F:cP X.prog X.w X.K X.mg X.base QT 1 fI fd ps (vC X.K f))(c:Wx X.K C fI f)(hb:eF X.K fd ps [])(hl:ps.length=2)(hr:bZ 2 X.A)(I:Inv X pins σ H s)(ry:bn y u)
  (go:∀a dx s',H a=none→H dx=none→a≠dx→X.s₀.heap.get? a=none→Inv X pins σ (upd (upd H a (pN a (.ref C) dx)) dx (Uj dx f y)) s'→Q (.ref a) s'):wpAny (model X.prog X.w) X.A (call (.ref C) [u]) Q X.xe s:=by
 obtain⟨bm,N,nm,q,bs,hdct,sn,sub,ab,col,dd,k0,k1,k2,k3,k5,hC,T⟩:=tN I.RJ c.lies;have L:∀h',(∀b o,s.heap.get? b=some o→h'.get? b=some o)→Looks (model X.prog X.w) h' (typeLookup (.ref C) "__init__") (some (.ref fI)):=fun h' k=>looks_findIn (I.RJ.keeps k) c.init
 obtain⟨oI,fo,fc⟩:∃oI,s.heap.get? fI=some oI∧oI.cls=.type "function":=by have z:typeIn X.K (.ref fI)=some (.type "function"):=beq_iff_eq.mp c.fn;obtain⟨oI,h1,h2⟩:=Option.map_eq_some_iff.mp (show(X.K.lookup fI).map (·.cls)=some (.type "function")from z);exact⟨oI,I.RJ _ _ h1,h2⟩
 have fr1:H (s.heap.objs.size+1)=none:=I.hok.fresh (Nat.le_succ _)
 have I2:Inv X pins σ (upd H (s.heap.objs.size+1) (vj (s.heap.objs.size+1) (.ref C))) { s with heap:=iX s.heap C [u],toks:=s.toks }:=
  I.laid (a:=s.heap.objs.size+1) (h':=iX s.heap C [u]) (t':=s.toks) (fun b q z=>gx z) (Nat.le_succ _)
   ⟨⟨_,_,lV,rfl,rfl,rfl,⟨_,rfl⟩⟩,⟨_,lV⟩,(by rintro h1 h2 ⟨o,vs,z,r⟩ k;exact ⟨o,vs,k o z,r⟩)⟩
 have Z2:X.s₀.heap.get? (s.heap.objs.size+1)=none:=by
  cases z:X.s₀.heap.get? (s.heap.objs.size+1)with
  |none=>rfl
  |some o=>exact absurd (Nat.lt_of_lt_of_le (Heap.lt_size z) I.sz) (by omega)
 obtain⟨hp,g,d,t,os⟩:=s;refine Gf PySem.F.excBase_ValueError (by decide+kernel) PySem.F.excBase_ValueError T hC L fo fc (by show 1≤sizeLine;decide) ?_
 have q2:vC X.K f [.ref (hp.objs.size+1),y] (upd H (hp.objs.size+1) (vj (hp.objs.size+1) (.ref C))) (fun v H'=>v=.non∧∃dx,upd H (hp.objs.size+1) (vj (hp.objs.size+1) (.ref C)) dx=none∧hp.objs.size+1≠dx∧H'=upd (upd (upd H (hp.objs.size+1) (vj (hp.objs.size+1) (.ref C))) (hp.objs.size+1) (pN (hp.objs.size+1) (.ref C) dx)) dx (Uj dx f y)) E0:=
  ⟨_,C,fI,y,rfl,aG,c,fun dx nd ne=>⟨rfl,dx,nd,ne,rfl⟩⟩
 have bd:=hb _ [.ref (hp.objs.size+1),u] I2.RJ (by rw[List.append_nil,hl];rfl);rw[List.append_nil]at bd;refine wpAny_call (codeAny_mono (F.run _ X.stack _ _ ⟨[.ref (hp.objs.size+1),u],[]⟩ [.ref (hp.objs.size+1),u] [.ref (hp.objs.size+1),y] _ E0 (hr.make C [u] []) (I2.env0.make C [u] []) bd (.cons rfl (.cons ry .nil)) q2) fun r s' hq=>?_)
 cases r with
 |error e=>exact hq.elim
 |ok fl=>
  cases fl with
  |ret z=>obtain⟨v,H',I3,rv,ev,dx,nd,ne,eH⟩:=I2.after hq;subst ev eH;rw[wY]at I3;exact⟨rv,go _ dx _ fr1 (by rw[ai (Ne.symm ne)]at nd;exact nd) ne Z2 I3⟩
  |next=>exact False.elim hq
  |brk=>exact False.elim hq
  |cont=>exact False.elim hq
def Du(K:Frag)(C fI:Addr)(f:Str)(E:XK)(ta:TA):TS:=fun _ σ H=>ta σ H fun vs H1=>∃y,vs= [y]∧Wx K C fI f∧∀dx,H1 dx=none→E (.ref C) (some dx) (upd H1 dx (Uj dx f y))
theorem vM{M:Model}{A:Around}{Ee:Value→Shared→Prop}{env:Env}{x:Sem Value}{Q:Flow→Shared→Prop}{s:Shared}(hh:A.handled=none)
  (h:wpAny M A x (fun v s1=>∃(e C N t:Addr)(dx:Option Addr)(sl:Array (Option Value))(nm q:Str)(bs bm:List Value)(hdct:Bool)(sn:List Str)(sub:List Value)(ab:Bool)(col:Option Bool)(dd:Option Addr)(k0 k1 k2 k3 k5:Option Value)(nid:String),
   v=.ref e∧s1.heap.get? C=some (excClassObj nm q C N bs bm hdct sn sub ab col dd k0 k1 k2 k3 k5 nid)∧bm.contains (.type "BaseException")=true∧s1.heap.get? e=some ⟨.ref C,dx,.fields #[.ref t,.none,.none,.none,.bool false,.none],sl⟩∧Ee (.ref e) s1) Ee s):
  wpAny M A (raiseStmt env (some x) none) Q Ee s:=by
 unfold raiseStmt;refine wpAny_bind (wpAny_mono h (fun v s1 z=>?_) fun _ _ z=>z);obtain⟨e,C,N,t,dx,sl,nm,q,bs,bm,hdct,sn,sub,ab,col,dd,k0,k1,k2,k3,k5,nid,rfl,hC,hB,he,hE⟩:=z;have both:(Value.ref C::bm).contains (.type "BaseException")=true:=by rw[List.contains_cons,hB,Bool.or_true]
 obtain⟨hp,g,d,tk,os⟩:=s1
 repeat (first|with_reducible refine wpAny_loadPart_at he ?_|with_reducible refine wpAny_loadPart_at hC ?_|(with_reducible refine wpAny_isSubtype_exc hC ?_;rw[both])|wp_step)
 exact wpAny_raiseNew_none hh hE
theorem yW{E:XK}(F:cP X.prog X.w X.K X.mg X.base QT 1 fI fd ps (vC X.K f))(c:Wx X.K C fI f)(hb:eF X.K fd ps [])(hl:ps.length=2)(hr:bZ 2 X.A)(hg:Gl X x)(hm:X.mg x=some (.ref C))(hc:X.calm=true)(l:Lv X E)(ha:PA X [e] ta)
  (Ql:nD0 x:=by decide) (he:starEach [e] X.env= [(false,eval e X.env)]:=by rfl) (Oc:(backTo pos (starEach [] X.env)).any (·.1)=false:=by rfl):
  PS X (.Raise (some (.Call (.Name x p) [e] [] pos)) none apos) (Du X.K C fI f E ta):=by
 intro pins s σ H D I h;rw[arm_exec_Raise];refine wpAny_bind (wpAny_standAt (vM (I.ok.hd hc) ?_));refine wpAny_mono (Q:=fun v s1=>∃a dx y H1,v=.ref a∧H1 a=none∧H1 dx=none∧a≠dx∧X.s₀.heap.get? a=none∧Inv X pins σ (upd (upd H1 a (pN a (.ref C) dx)) dx (Uj dx f y)) s1∧E (.ref C) (some dx) (upd H1 dx (Uj dx f y))) (wpAny_bind (wpAny_mono (wpAny_Call_Name_kw (nM I hg hm ?_ Ql)) (fun v s1 z=>wpAny_bind (wpAny_standAt (wpAny_pure z))) fun _ _ z=>z)) (fun v s1 z=>?_) fun _ _ z=>z
 ·refine W.callWith_K (h₀:=X.base) I.ok.mod.Px c.kp (I_ (ha pos pins s σ H _ I h) fun us s1 ⟨vs,H1,I1,r,y,ev,c',q⟩=>⟨I1.RJ,?_⟩) he Oc;subst ev;obtain⟨u,rfl,ru⟩:=r.one;exact yQ F c hb hl hr I1 ru fun a dx s2 na nd ne new I2=>⟨a,dx,y,H1,rfl,na,nd,ne,new,I2,q dx nd⟩
 ·obtain⟨a,dx,y,H1,rfl,na,nd,ne,new,I1,q⟩:=z;obtain⟨bm,N,nm,q0,bs,hdct,sn,sub,ab,col,dd,k0,k1,k2,k3,k5,hC,T⟩:=tN I1.RJ c.lies;have ha:upd (upd H1 a (pN a (.ref C) dx)) dx (Uj dx f y) a=some (pN a (.ref C) dx):=by rw[ai ne,aG]
  obtain⟨⟨o,vs,ho,Wb,Yr,Yp,t,ht⟩,_,_⟩:=(show bE X.prog X.w _ s1.heap a (pN a (.ref C) dx)from I1.hok a _ ha)
  obtain⟨oc,od,X4,Rz⟩:=o;dsimp only at Wb Yr Yp;subst Wb Yr Yp ht;refine⟨a,C,N,t,_,_,nm,q0,bs,bm,hdct,sn,sub,ab,col,dd,k0,k1,k2,k3,k5,_,rfl,hC,T.hasType (by decide+kernel),ho,l.2.2.2 _ _ (zv I1 l.1 l.2.1 l.2.2.1 ho rfl rfl rfl ha new ?_)⟩
  have:del (upd (upd H1 a (pN a (.ref C) dx)) dx (Uj dx f y)) a=upd H1 dx (Uj dx f y):=by
   funext b
   by_cases hb:b=a
   ·subst hb;rw[pw,ai ne,na]
   ·rw[iM hb]
    by_cases hd:b=dx
    ·subst hd;rw[aG,aG]
    ·rw[ai hd,ai hd,ai hb]
  rw[this];exact q
end
section
variable{X:Cx}{pins:List (Addr×Obj)}{σ:St}{H:Hp}{s:Shared}{a:Addr}{kvs:List (Key×V)}
theorem Inv.SQ(I:Inv X pins σ H s)(e:H a=some (.dK kvs)):∃o,Inv X pins σ (upd H a (.SQ o (.dK kvs))) s:=by
 obtain⟨z,y,vs,r,o,es,ep,ho,rest⟩:=(show bE X.prog X.w H s.heap a (.dK kvs)from I.hok a _ e)
 refine⟨o,?_⟩
 have un:Un X.fs [] H (upd H a (.SQ o (.dK kvs))) s.heap s.heap:=by
  refine⟨fun b u q _ _ _=>q,fun b u q _ _ _=>⟨u.slots,q⟩,fun b u q n _=>?_,fun b u q _=>⟨u,q⟩,fun b xs q=>?_,fun b u v q=>?_,fun b ps q=>⟨#[],?_⟩⟩
  ·have:b≠a:=fun w=>by subst w;rw[n]at e;cases e
   rw[ai this];exact n
  ·have:b≠a:=qu q e (by intro w;cases w);rw[ai this];exact q
  ·have:b≠a:=qu q e (by intro w;cases w);rw[ai this];exact q
  ·have:b≠a:=qu q e (by intro w;cases w);rw[ai this,q];simp
 have hok:Pq X.prog X.w (upd H a (.SQ o (.dK kvs))) s.heap:=fun b u q=>by
  by_cases hb:b=a
  ·subst hb;rw[aG]at q
   cases q
   exact⟨ho,z,y,vs,r,o,es,ep,ho,rest⟩
  ·rw[ai hb]at q;refine(I.hok b u q).stay (fun _ _ _ w=>w) (fun c w=>?_) fun c xs w=>?_
   ·have:c≠a:=qu w e (by intro w;cases w);rw[ai this];exact w
   ·have:c≠a:=qu w e (by intro w;cases w);rw[ai this];exact w
 exact I.un (t':=s.toks) un hok
def tFz(t:TE):TE:=fun σ H Q=>t σ H fun v H1=>Q v H1∨∃a kvs,H1 a=some (.dK kvs)∧∀o,Q v (upd H1 a (.SQ o (.dK kvs)))
theorem FA{e:Expr}{t:TE}(h:PE X e t):PE X e (tFz t):=fun pins s σ H Q I q=>
 I_ (h pins s σ H _ I q) fun u s1 ⟨v,H1,I1,rv,q1⟩=>by
  rcases q1 with q1|⟨a,kvs,ea,q1⟩
  ·exact⟨v,H1,I1,rv,q1⟩
  ·obtain⟨o,I2⟩:=I1.SQ ea;exact⟨v,_,I2,rv,q1 o⟩
end
end L2
namespace L3
open PySem PySem.Spec PyProof.Rows L2
abbrev St:=L2.St
abbrev PK:=Sum Int (List Nat)
noncomputable def S(l:List Nat):Str:=⟨l.toArray⟩
theorem Kl(l:List Nat):(S l).cps.toList=l:=by simp[S]
theorem yC{a b:List Nat}(h:S a=S b):a=b:=by have:=congrArg (fun x=>x.cps.toList) h;simpa[S]using this
theorem fJ(l:List Nat):(S l).length=l.length:=by show(S l).cps.size=_;simp[S]
def tk:PK→Key
 |.inl i=>.inl i
 |.inr l=>.inr (S l)
theorem vz{a b:PK}(h:tk a=tk b):a=b:=by
 cases a<;>cases b<;>simp[tk]at h
 ·rw[h]
 ·rw[yC h]
inductive PV where
 |non|bl (b:Bool)|int (i:Int)|str (x:List Nat)|ty (n:String)|cls (C:Nat)
 |tup (xs:List PV)|lst (xs:List PV)|Qs (xs:List PV)|dct (kvs:List (PK×PV))|ins (C:Nat) (fs:List (Str×PV))
 |ref (i:Nat)|exc (C:Nat)|Qt (C:Nat) (v:PV)
mutual
def PV.pure:PV→Bool
 |.ref _=>false
 |.tup xs=>ah xs
 |.lst xs=>ah xs
 |.Qs xs=>ah xs
 |.dct kvs=>dL kvs
 |.ins _ fs=>oK fs
 |.Qt _ v=>v.pure
 |_=>true
def ah:List PV→Bool
 |[]=>true
 |x::r=>x.pure&&ah r
def dL:List (PK×PV)→Bool
 |[]=>true
 |(_,x)::r=>x.pure&&dL r
def oK:List (Str×PV)→Bool
 |[]=>true
 |(_,x)::r=>x.pure&&oK r
end
theorem eJ:∀(l:List (PK×PV)),dL l=ah (l.map (·.2))
 |[]=>by simp[ah,dL]
 |(k,x)::r=>by simp[ah,dL,eJ r]
theorem oJ:∀(l:List (Str×PV)),oK l=ah (l.map (·.2))
 |[]=>by simp[ah,oK]
 |(k,x)::r=>by simp[ah,oK,oJ r]
abbrev Tab:=Nat→Option Addr
mutual
inductive aF(K:W.Frag)(T:Tab)(F:Hp)(m:List Addr):PV→V→Prop where
 |non:aF K T F m .non .non
 |bl (b:Bool):aF K T F m (.bl b) (.bl b)
 |int (i:Int):aF K T F m (.int i) (.int i)
 |str (x:List Nat):aF K T F m (.str x) (.str (S x))
 |ty (n:String):aF K T F m (.ty n) (.ty n)
 |cls {C:Nat} {a:Addr} (c:T C=some a):aF K T F m (.cls C) (.ref a)
 |tup {ps:List PV} {a:Addr} {vs:List V} (e:O5 K F a vs) (r:ak K T F m ps vs):aF K T F m (.tup ps) (.ref a)
 |lst {ps:List PV} {a:Addr} {vs:List V} (e:F a=some (.lst vs)) (r:ak K T F m ps vs):aF K T F m (.lst ps) (.ref a)
 |Qs {ps:List PV} {a:Addr} {vs:List V} (e:Og K F a vs) (r:ak K T F m ps vs):aF K T F m (.Qs ps) (.ref a)
 |dct {kps:List (PK×PV)} {a:Addr} {o:Obj} {kvs:List (Key×V)} (e:F a=some (.SQ o (.dK kvs))) (k:kvs.map (·.1)=kps.map (fun p=>tk p.1)) (r:ak K T F m (kps.map (·.2)) (kvs.map (·.2))):aF K T F m (.dct kps) (.ref a)
 |ins {C:Nat} {fs:List (Str×PV)} {a Ca dx:Addr} {Zn:List (Str×V)} (c:T C=some Ca) (e:F a=some (.ins Ca dx Zn)) (d:F dx=some (.own a)) (k:Zn.map (·.1)=fs.map (·.1)) (r:ak K T F m (fs.map (·.2)) (Zn.map (·.2))):aF K T F m (.ins C fs) (.ref a)
 |ref {i:Nat} {a:Addr} (e:m[i]? =some a):aF K T F m (.ref i) (.ref a)
 |exc {C:Nat} {a Ca:Addr} {dx:Option Addr} (c:T C=some Ca) (e:F a=some (mR a (.ref Ca) dx)):aF K T F m (.exc C) (.ref a)
 |Qt {C:Nat} {a Ca dx:Addr} {p:PV} {y:V} (c:T C=some Ca) (e:F a=some (mR a (.ref Ca) (some dx))) (d:F dx=some (Uj dx "at" y)) (r:aF K T F m p y):aF K T F m (.Qt C p) (.ref a)
inductive ak(K:W.Frag)(T:Tab)(F:Hp)(m:List Addr):List PV→List V→Prop where
 |nil:ak K T F m [] []
 |cons {p:PV} {v:V} {ps:List PV} {vs:List V} (r:aF K T F m p v) (t:ak K T F m ps vs):ak K T F m (p::ps) (v::vs)
end
section
variable{K:W.Frag}{T:Tab}{F F':Hp}{m m':List Addr}
mutual
theorem aF.mono(hF:cD F F')(hm:∀(i:Nat)(a:Addr),m[i]? =some a→m'[i]? =some a):∀{p:PV}{v:V},aF K T F m p v→aF K T F' m' p v
 |_,_,.non=>.non
 |_,_,.bl b=>.bl b
 |_,_,.int i=>.int i
 |_,_,.str x=>.str x
 |_,_,.ty n=>.ty n
 |_,_,.cls c=>.cls c
 |_,_,.tup e r=>.tup (hF.Rt e) (ak.mono hF hm r)
 |_,_,.lst e r=>.lst (hF _ _ e) (ak.mono hF hm r)
 |_,_,.Qs e r=>.Qs (hF.seq e) (ak.mono hF hm r)
 |_,_,.dct e k r=>.dct (hF _ _ e) k (ak.mono hF hm r)
 |_,_,.ins c e d k r=>.ins c (hF _ _ e) (hF _ _ d) k (ak.mono hF hm r)
 |_,_,.ref e=>.ref (hm _ _ e)
 |_,_,.exc c e=>.exc c (hF _ _ e)
 |_,_,.Qt c e d r=>.Qt c (hF _ _ e) (hF _ _ d) (aF.mono hF hm r)
theorem ak.mono(hF:cD F F')(hm:∀(i:Nat)(a:Addr),m[i]? =some a→m'[i]? =some a):∀{p:List PV}{v:List V},ak K T F m p v→ak K T F' m' p v
 |_,_,.nil=>.nil
 |_,_,.cons r t=>.cons (aF.mono hF hm r) (ak.mono hF hm t)
end
mutual
theorem aF.J_:∀{p:PV}{v:V},aF K T F m p v→p.pure=true→aF K T F m' p v
 |_,_,.non,_=>.non
 |_,_,.bl b,_=>.bl b
 |_,_,.int i,_=>.int i
 |_,_,.str x,_=>.str x
 |_,_,.ty n,_=>.ty n
 |_,_,.cls c,_=>.cls c
 |_,_,.tup e r,h=>.tup e (ak.J_ r (by simpa[PV.pure]using h))
 |_,_,.lst e r,h=>.lst e (ak.J_ r (by simpa[PV.pure]using h))
 |_,_,.Qs e r,h=>.Qs e (ak.J_ r (by simpa[PV.pure]using h))
 |_,_,.dct e k r,h=>.dct e k (ak.J_ r (by simpa[PV.pure,eJ]using h))
 |_,_,.ins c e d k r,h=>.ins c e d k (ak.J_ r (by simpa[PV.pure,oJ]using h))
 |_,_,.ref e,h=>by simp[PV.pure]at h
 |_,_,.exc c e,_=>.exc c e
 |_,_,.Qt c e d r,h=>.Qt c e d (aF.J_ r (by simpa[PV.pure]using h))
theorem ak.J_:∀{p:List PV}{v:List V},ak K T F m p v→ah p=true→ak K T F m' p v
 |_,_,.nil,_=>.nil
 |_,_,.cons r t,h=>by simp only[ah,ab1]at h;exact .cons (aF.J_ r h.1) (ak.J_ t h.2)
end
theorem ak.length:∀{p:List PV}{v:List V},ak K T F m p v→p.length=v.length
 |_,_,.nil=>rfl
 |_,_,.cons _ t=>by simp[ak.length t]
theorem ak.get:∀{ps:List PV}{vs:List V}{i:Nat}{p:PV},ak K T F m ps vs→ps[i]? =some p→∃v,vs[i]? =some v∧aF K T F m p v
 |_,_,_,_,.nil,e=>by simp at e
 |_,_,0,_,.cons r _,e=>by simp at e;subst e;exact⟨_,rfl,r⟩
 |_,_,i+1,p,.cons _ t,e=>by obtain⟨u,h1,h2⟩:=ak.get (i:=i) (p:=p) t (by simpa using e);exact⟨u,by simpa using h1,h2⟩
theorem ak.append:∀{ps qs:List PV}{vs ws:List V},ak K T F m ps vs→ak K T F m qs ws→ak K T F m (ps++qs) (vs++ws)
 |_,_,_,_,.nil,s=>s
 |_,_,_,_,.cons r t,s=>.cons r (ak.append t s)
theorem ak.take:∀{ps:List PV}{vs:List V}(n:Nat),ak K T F m ps vs→ak K T F m (ps.take n) (vs.take n)
 |_,_,0,_=>.nil
 |_,_,_+1,.nil=>.nil
 |_,_,n+1,.cons r t=>.cons r (ak.take n t)
theorem ak.drop:∀{ps:List PV}{vs:List V}(n:Nat),ak K T F m ps vs→ak K T F m (ps.drop n) (vs.drop n)
 |_,_,0,r=>r
 |_,_,_+1,.nil=>.nil
 |_,_,n+1,.cons _ t=>ak.drop n t
theorem ak.set{x:PV}{u:V}(r:aF K T F m x u):∀{xs:List PV}{us:List V}(i:Nat),ak K T F m xs us→ak K T F m (xs.set i x) (us.set i u)
 |_,_,_,.nil=>.nil
 |_,_,0,.cons _ t=>.cons r t
 |_,_,i+1,.cons q t=>.cons q (ak.set r i t)
end
inductive PO where
 |lst (xs:List PV)|dct (kvs:List (PK×PV))|J7 (v:PV)
section
variable(K:W.Frag)(T:Tab)(F:Hp)(m:List Addr)
def Di(H:Hp)(a:Addr):PO→Prop
 |.lst ps=>F a=none∧∃vs,H a=some (.lst vs)∧ak K T F m ps vs
 |.dct kps=>F a=none∧∃kvs,H a=some (.dK kvs)∧kvs.map (·.1)=kps.map (fun p=>tk p.1)∧ak K T F m (kps.map (·.2)) (kvs.map (·.2))
 |.J7 p=>aF K T F m p (.ref a)∧p.pure=true∧∃o,F a=some o
structure RelH(h:List PO)(H:Hp):Prop where
 same:cD F H
 len:h.length=m.length
 obj:∀(i:Nat)(o:PO)(a:Addr),h[i]? =some o→m[i]? =some a→Di K T F m H a o
 nd:m.Nodup
def kB(ρ:List (Option PV))(σ:St):Prop:=ρ.length=σ.length∧∀(i:Nat)(p:PV),ρ[i]? =some (some p)→∃v,σ[i]? =some (some v)∧aF K T F m p v
structure fY(ρ:List (Option PV))(h:List PO)(σ:St)(H:Hp):Prop extends RelH K T F m h H where
 env:kB K T F m ρ σ
end
structure aX(F:Hp)(m:List Addr)(H F':Hp)(m':List Addr)(H':Hp):Prop where
 fz:cD F F'
 pre:∃t,m'=m++t
 fr:∀b o,H b=some o→b∉m→H' b=some o
 dom:∀b o,H b=some o→∃o',H' b=some o'
 new:∀(i:Nat)(a:Addr),m.length≤i→m'[i]? =some a→H a=none
 SX:∀a o,F' a=some o→F a=some o∨H a=none∨a∈m
section
variable{K:W.Frag}{T:Tab}{F F1 F2 H H1 H2:Hp}{m m1 m2:List Addr}
theorem aX.refl:aX F m H F m H:=⟨cD.refl _,⟨[],by simp⟩,fun _ _ h _=>h,fun _ o h=>⟨o,h⟩,fun i a h e=>(by rw[List.getElem?_eq_none h]at e;cases e),fun _ _ h=>.inl h⟩
theorem aX.idx(s:aX F m H F1 m1 H1):∀(i:Nat)(a:Addr),m[i]? =some a→m1[i]? =some a:=fun i a e=>by
 obtain⟨t,rfl⟩:=s.pre
 have hi:i<m.length:=by
  rcases Nat.lt_or_ge i m.length with h|h
  ·exact h
  ·rw[List.getElem?_eq_none h]at e;cases e
 rw[List.getElem?_append_left hi];exact e
theorem aX.mem(s:aX F m H F1 m1 H1){a:Addr}(h:a∈m1):a∈m∨H a=none:=by
 obtain⟨i,e⟩:=List.mem_iff_getElem?.mp h;obtain⟨t,rfl⟩:=s.pre;rcases Nat.lt_or_ge i m.length with hi|hi
 ·rw[List.getElem?_append_left hi]at e;exact .inl (List.mem_of_getElem? e)
 ·exact .inr (s.new i a hi e)
theorem aX.back(s:aX F m H F1 m1 H1){a:Addr}(h:H1 a=none):H a=none:=by
 cases q:H a with
 |none=>rfl
 |some o=>obtain⟨o',e⟩:=s.dom a o q;rw[h]at e;cases e
theorem aX.trans(s:aX F m H F1 m1 H1)(t:aX F1 m1 H1 F2 m2 H2):aX F m H F2 m2 H2 where
 fz:=s.fz.trans t.fz
 pre:=by obtain⟨x,rfl⟩:=s.pre;obtain⟨y,rfl⟩:=t.pre;exact⟨x++y,by simp⟩
 fr:=fun b o h n=>t.fr b o (s.fr b o h n) fun z=>by
  rcases s.mem z with q|q
  ·exact n q
  ·rw[h]at q;cases q
 dom:=fun b o h=>by obtain⟨o',e⟩:=s.dom b o h;exact t.dom b o' e
 new:=fun i a hi e=>by
  obtain⟨x,rfl⟩:=s.pre;rcases Nat.lt_or_ge i (m++x).length with h|h
  ·obtain⟨y,rfl⟩:=t.pre;rw[List.getElem?_append_left h]at e;exact s.new i a hi e
  ·exact s.back (t.new i a h e)
 SX:=fun a o h=>by
  rcases t.SX a o h with q|q|q
  ·exact s.SX a o q
  ·exact .inr (.inl (s.back q))
  ·rcases s.mem q with z|z
   ·exact .inr (.inr z)
   ·exact .inr (.inl z)
theorem aX.rep(s:aX F m H F1 m1 H1){p:PV}{v:V}(r:aF K T F m p v):aF K T F1 m1 p v:=r.mono s.fz s.idx
theorem aX.reps(s:aX F m H F1 m1 H1){p:List PV}{v:List V}(r:ak K T F m p v):ak K T F1 m1 p v:=r.mono s.fz s.idx
theorem aX.env(s:aX F m H F1 m1 H1){ρ:List (Option PV)}{σ:St}(r:kB K T F m ρ σ):kB K T F1 m1 ρ σ:=⟨r.1,fun i p e=>by obtain⟨v,h1,h2⟩:=r.2 i p e;exact⟨v,h1,s.rep h2⟩⟩
theorem aX.lay{h:List PO}{p:Addr}{o:HO}(R:RelH K T F m h H)(hp:H p=none):aX F m H (upd F p o) m (upd H p o)∧RelH K T (upd F p o) m h (upd H p o):=by
 have hF:F p=none:=R.same.free hp;have sF:cD F (upd F p o):=fm hF o;refine⟨⟨sF,⟨[],by simp⟩,fun b u e _=>by rw[ai (ar e hp)];exact e,fun b u e=>⟨u,by rw[ai (ar e hp)];exact e⟩,fun i a hi e=>(by rw[List.getElem?_eq_none hi]at e;cases e),fun a u e=>?_⟩,?_⟩
 ·by_cases ha:a=p
  ·subst ha;exact .inr (.inl hp)
  ·rw[ai ha]at e;exact .inl e
 ·refine⟨fun b u e=>?_,R.len,fun i ob a h1 h2=>?_,R.nd⟩
  ·by_cases ha:b=p
   ·subst ha;rw[aG]at e ⊢;exact e
   ·rw[ai ha]at e ⊢;exact R.same b u e
  ·have q:=R.obj i ob a h1 h2;have mono:∀{ps vs},ak K T F m ps vs→ak K T (upd F p o) m ps vs:=fun r=>r.mono sF fun _ _ h=>h
   cases ob with
   |lst ps=>obtain⟨f,vs,e,r⟩:=q;have ne:a≠p:=ar e hp;exact⟨by rw[ai ne];exact f,vs,by rw[ai ne];exact e,mono r⟩
   |dct kps=>obtain⟨f,kvs,e,k,r⟩:=q;have ne:a≠p:=ar e hp;exact⟨by rw[ai ne];exact f,kvs,by rw[ai ne];exact e,k,mono r⟩
   |J7 pv=>obtain⟨r,pu,u,e⟩:=q;exact⟨r.mono sF fun _ _ h=>h,pu,u,sF _ _ e⟩
end
inductive Res(α:Type) where
 |ok (a:α) (h:List PO)|exc (e:PV) (h:List PO)|bad
noncomputable def Res.bind{α β:Type}(r:Res α)(k:α→List PO→Res β):Res β:=match r with
 |.ok a h=>k a h
 |.exc e h=>.exc e h
 |.bad=>.bad
@[simp] theorem Res.M4{α β:Type}(a:α)(h:List PO)(k:α→List PO→Res β):(Res.ok a h).bind k=k a h:=rfl
@[simp] theorem Res.Qh{α β:Type}(a:PV)(h:List PO)(k:α→List PO→Res β):(Res.exc a h).bind k=.exc a h:=rfl
@[simp] theorem Res.Vm{α β:Type}(k:α→List PO→Res β):(Res.bad).bind k=.bad:=rfl
def kA(K:W.Frag)(T:Tab)(F:Hp)(m:List Addr)(e:PV)(cls:Value)(dx:Option Addr):Prop:=match e with
 |.cls C=>∃Ca,T C=some Ca∧cls=.ref Ca∧dx=none
 |.Qt C v=>∃Ca d y,T C=some Ca∧cls=.ref Ca∧dx=some d∧F d=some (Uj d "at" y)∧aF K T F m v y
 |_=>False
theorem kA.J_{K:W.Frag}{T:Tab}{F:Hp}{m m':List Addr}{e:PV}{cls:Value}{dx:Option Addr}(h:kA K T F m e cls dx)(p:e.pure=true):kA K T F m' e cls dx:=by
 unfold kA at h ⊢
 split at h
 ·exact h
 ·obtain⟨Ca,d,y,h1,h2,h3,h4,h5⟩:=h;exact⟨Ca,d,y,h1,h2,h3,h4,h5.J_ p⟩
 ·exact h.elim
def aD{α β:Type}(K:W.Frag)(T:Tab)(R:Hp→List Addr→α→β→Prop)(F:Hp)(m:List Addr)(H:Hp)(Q:β→Hp→Prop)(Ew:XK):Res α→Prop
 |.ok a h'=>∀F' m' H' x,aX F m H F' m' H'→RelH K T F' m' h' H'→R F' m' a x→Q x H'
 |.exc e h'=>∀F' m' H' cls dx,aX F m H F' m' H'→RelH K T F' m' h' H'→kA K T F' m' e cls dx→Ew cls dx H'
 |.bad=>False
section
variable{K:W.Frag}{T:Tab}{F F1 H H1:Hp}{m m1:List Addr}{α β γ δ:Type}{R:Hp→List Addr→α→β→Prop}{R':Hp→List Addr→γ→δ→Prop}{Ew:XK}
theorem aD.step{Q:β→Hp→Prop}{res:Res α}(s:aX F m H F1 m1 H1)(p:aD K T R F m H Q Ew res):aD K T R F1 m1 H1 Q Ew res:=by
 cases res with
 |ok a h=>exact fun F' m' H' x t=>p F' m' H' x (s.trans t)
 |exc e h=>exact fun F' m' H' c d t=>p F' m' H' c d (s.trans t)
 |bad=>exact p
theorem aD.bind{Q:δ→Hp→Prop}{res:Res α}{k:α→List PO→Res γ}(p:aD K T R' F m H Q Ew (res.bind k)):
  aD K T R F m H (fun x H1=>∃F1 m1 h1 a,aX F m H F1 m1 H1∧RelH K T F1 m1 h1 H1∧R F1 m1 a x∧aD K T R' F1 m1 H1 Q Ew (k a h1)) Ew res:=by
 cases res with
 |ok a h=>exact fun F' m' H' x s r q=>⟨F',m',h,a,s,r,q,aD.step s p⟩
 |exc e h=>exact p
 |bad=>exact p
theorem aD.mono{Q Q':β→Hp→Prop}{res:Res α}(p:aD K T R F m H Q Ew res)(hq:∀x H',Q x H'→Q' x H'):aD K T R F m H Q' Ew res:=by
 cases res with
 |ok a h=>exact fun F' m' H' x s r q=>hq _ _ (p F' m' H' x s r q)
 |exc e h=>exact p
 |bad=>exact p
theorem aD.here{Q:β→Hp→Prop}{a:α}{h:List PO}{x:β}(p:aD K T R F m H Q Ew (.ok a h))(R0:RelH K T F m h H)(r:R F m a x):Q x H:=p F m H x .refl R0 r
end
abbrev Ev:=List (Option PV)
abbrev Ex:=Ev→List PO→Res PV
abbrev Tx:=Ev→List PO→Res Bool
abbrev Ax:=Ev→List PO→Res (List PV)
def RB:Hp→List Addr→Bool→Bool→Prop:=fun _ _ a b=>a=b
section
variable(X:Cx)(T:Tab)(Ew:XK)
noncomputable def wE(f:Ex):TE:=fun σ H Q=>∃F m ρ h,fY X.K T F m ρ h σ H∧aD X.K T (aF X.K T) F m H Q Ew (f ρ h)
noncomputable def wT(f:Tx):TT:=fun σ H Q=>∃F m ρ h,fY X.K T F m ρ h σ H∧aD X.K T RB F m H Q Ew (f ρ h)
noncomputable def wA(f:Ax):TA:=fun σ H Q=>∃F m ρ h,fY X.K T F m ρ h σ H∧aD X.K T (ak X.K T) F m H Q Ew (f ρ h)
@[irreducible] def RE(e:Expr)(f:Ex):Prop:=PE X e (wE X T Ew f)
@[irreducible] def RT(e:Expr)(f:Tx):Prop:=PT X e (wT X T Ew f)
@[irreducible] def RA(es:List Expr)(f:Ax):Prop:=PA X es (wA X T Ew f)
end
theorem PE.imp{X:Cx}{e:Expr}{t t':TE}(h:PE X e t)(i:∀ σ H Q,t' σ H Q→t σ H Q):PE X e t':=fun pins s σ H Q I q=>h pins s σ H Q I (i _ _ _ q)
theorem PT.imp{X:Cx}{e:Expr}{t t':TT}(h:PT X e t)(i:∀ σ H Q,t' σ H Q→t σ H Q):PT X e t':=fun pins s σ H Q I q=>h pins s σ H Q I (i _ _ _ q)
theorem PW.imp{X:Cx}{e:Expr}{t t':TT}(h:PW X e t)(i:∀ σ H Q,t' σ H Q→t σ H Q):PW X e t':=fun w pins s σ H Q I q=>h w pins s σ H Q I (i _ _ _ q)
theorem PA.imp{X:Cx}{es:List Expr}{t t':TA}(h:PA X es t)(i:∀ σ H Q,t' σ H Q→t σ H Q):PA X es t':=fun pos pins s σ H Q I q=>h pos pins s σ H Q I (i _ _ _ q)
theorem PS.imp{X:Cx}{e:Stmt}{t t':TS}(h:PS X e t)(i:∀D σ H,t' D σ H→t D σ H):PS X e t':=fun pins s σ H D I q=>h pins s σ H D I (i _ _ _ q)
theorem Sw.imp{X:Cx}{e:List Stmt}{t t':TS}(h:Sw X e t)(i:∀D σ H,t' D σ H→t D σ H):Sw X e t':=fun pins s σ H D I q=>h pins s σ H D I (i _ _ _ q)
noncomputable def aj(h:List PO):PV→PV
 |.ref i=>match h[i]? with
  |some (.J7 q)=>q
  |_=>.ref i
 |p=>p
theorem RelH.TF{K:W.Frag}{T:Tab}{F H:Hp}{m:List Addr}{h:List PO}(R:RelH K T F m h H){p:PV}{v:V}(r:aF K T F m p v):aF K T F m (aj h p) v:=by
 cases r with
 |@ref i a e=>
  show aF K T F m (match h[i]? with|some (.J7 q)=>q|_=>.ref i) (.ref a)
  cases q:h[i]? with
  |none=>exact .ref e
  |some o=>
   cases o with
   |J7 p=>exact(R.obj i _ a q e).1
   |lst _=>exact .ref e
   |dct _=>exact .ref e
 |non=>exact .non
 |bl b=>exact .bl b
 |int b=>exact .int b
 |str b=>exact .str b
 |ty b=>exact .ty b
 |cls c=>exact .cls c
 |tup e r=>exact .tup e r
 |lst e r=>exact .lst e r
 |Qs e r=>exact .Qs e r
 |dct e k r=>exact .dct e k r
 |ins c e d k r=>exact .ins c e d k r
 |exc c e=>exact .exc c e
 |Qt c e d r=>exact .Qt c e d r
noncomputable def af(i:Nat):Ex:=fun ρ h=>match ρ[i]? with
 |some (some p)=>.ok (aj h p) h
 |_=>.bad
noncomputable def cK(v:PV):Ex:=fun _ h=>.ok v h
def c1(g:PV→List PO→Res PV)(a:Ex):Ex:=fun ρ h=>(a ρ h).bind g
def c2(g:PV→PV→List PO→Res PV)(a b:Ex):Ex:=fun ρ h=>(a ρ h).bind fun x h1=>(b ρ h1).bind fun y h2=>g x y h2
def cN(g:List PV→List PO→Res PV)(a:Ax):Ex:=fun ρ h=>(a ρ h).bind g
noncomputable def ag:Ax:=fun _ h=>.ok [] h
def ae(a:Ex)(r:Ax):Ax:=fun ρ h=>(a ρ h).bind fun x h1=>(r ρ h1).bind fun xs h2=>.ok (x::xs) h2
section
variable{X:Cx}{T:Tab}{Ew:XK}
theorem Ft{e:Expr}{t:TE}{f:Ex}(h:PE X e t)(i:∀ σ H Q F m ρ h,fY X.K T F m ρ h σ H→aD X.K T (aF X.K T) F m H Q Ew (f ρ h)→t σ H Q):RE X T Ew e f:=by with_unfolding_all exact(
 PE.imp h (by rintro σ H Q ⟨F,m,ρ,h,R,p⟩;exact i σ H Q F m ρ h R p))
theorem rv(i:Nat){x:Str}{pos:Pos}(hN:X.N[i]? =some x:=by rfl)(hv:YG X.env.scope x:=by first|exact Or.inl rfl|exact Or.inr (Or.inl rfl)|exact Or.inr (Or.inr rfl))(hd:nD0 x:=by decide)
  (RK:(x==("__classdict__":Str))=false:=by decide):RE X T Ew (.Name x pos) (af i):=by with_unfolding_all
 refine Ft (vQ hN hv hd RK) fun σ H Q F m ρ h R p=>?_;unfold af at p
 cases q:ρ[i]? with
 |none=>rw[q]at p;exact p.elim
 |some o=>
  cases o with
  |none=>rw[q]at p;exact p.elim
  |some pv=>rw[q]at p;obtain⟨v,h1,h2⟩:=R.env.2 i pv q;exact⟨v,h1,aD.here p R.toRelH (R.TF h2)⟩
theorem fB{e:Expr}{v:V}{p:PV}(h:PE X e (tC v))(r:∀F m,aF X.K T F m p v):RE X T Ew e (cK p):=by with_unfolding_all exact(
 Ft h fun σ H Q F m ρ h R q=>aD.here q R.toRelH (r F m))
theorem aM{i:Int}{j pos}:RE X T Ew (.Constant (.int i) j pos) (cK (.int i)):=by with_unfolding_all exact(
  fB Hv fun _ _=>.int i)
theorem IY{b:Bool}{j pos}:RE X T Ew (.Constant (.bool b) j pos) (cK (.bl b)):=by with_unfolding_all exact(
  fB Jr fun _ _=>.bl b)
theorem vK{j pos}:RE X T Ew (.Constant .none j pos) (cK .non):=by with_unfolding_all exact(
  fB Hu fun _ _=>.non)
theorem GU{x:Str}(l:List Nat){j pos}(e:x=S l:=by rfl):RE X T Ew (.Constant (.str x) j pos) (cK (.str l)):=by with_unfolding_all exact(
  fB Hr fun _ _=>by rw[e];exact .str l)
def Gd(K:W.Frag)(T:Tab)(r:V→Hp→VK→Prop)(g:PV→List PO→Res PV):Prop:=
 ∀F m h H x p Q Ew,RelH K T F m h H→aF K T F m p x→aD K T (aF K T) F m H Q Ew (g p h)→r x H Q
def et(K:W.Frag)(T:Tab)(r:R2)(g:PV→PV→List PO→Res PV):Prop:=
 ∀F m h H x y p q Q Ew,RelH K T F m h H→aF K T F m p x→aF K T F m q y→aD K T (aF K T) F m H Q Ew (g p q h)→r x y H Q
def pM(K:W.Frag)(T:Tab)(r:List V→Hp→VK→Prop)(g:List PV→List PO→Res PV):Prop:=
 ∀F m h H xs ps Q Ew,RelH K T F m h H→ak K T F m ps xs→aD K T (aF K T) F m H Q Ew (g ps h)→r xs H Q
theorem fY.of{K:W.Frag}{F F1 H H1:Hp}{m m1:List Addr}{ρ:Ev}{h h1:List PO}{σ:St}(R:fY K T F m ρ h σ H)(s:aX F m H F1 m1 H1)(R1:RelH K T F1 m1 h1 H1):fY K T F1 m1 ρ h1 σ H1:=⟨R1,s.env R.env⟩
theorem w1{r:V→Hp→VK→Prop}{g:PV→List PO→Res PV}{fa:Ex}(P:Gd X.K T r g){σ:St}{H:Hp}{Q:VK}(w:wE X T Ew (c1 g fa) σ H Q):tUn r (wE X T Ew fa) σ H Q:=by obtain⟨F,m,ρ,h,R,p⟩:=w;exact⟨F,m,ρ,h,R,(aD.bind p).mono (by rintro x H1 ⟨F1,m1,h1,a,s,R1,ra,p1⟩;exact P F1 m1 h1 H1 x a Q Ew R1 ra p1)⟩
theorem w2{r:R2}{g:PV→PV→List PO→Res PV}{fa fb:Ex}(P:et X.K T r g){σ:St}{H:Hp}{Q:VK}(w:wE X T Ew (c2 g fa fb) σ H Q):XC r (wE X T Ew fa) (wE X T Ew fb) σ H Q:=by obtain⟨F,m,ρ,h,R,p⟩:=w;refine⟨F,m,ρ,h,R,(aD.bind p).mono ?_⟩;rintro x H1 ⟨F1,m1,h1,a,s,R1,ra,p1⟩;refine⟨F1,m1,ρ,h1,R.of s R1,(aD.bind p1).mono ?_⟩;rintro y H2 ⟨F2,m2,h2,b,s2,R2,rb,p2⟩;exact P F2 m2 h2 H2 x y a b Q Ew R2 (s2.rep ra) rb p2
theorem wN{r:List V→Hp→VK→Prop}{g:List PV→List PO→Res PV}{fa:Ax}(P:pM X.K T r g){σ:St}{H:Hp}{Q:VK}(w:wE X T Ew (cN g fa) σ H Q):ZM r (wA X T Ew fa) σ H Q:=by obtain⟨F,m,ρ,h,R,p⟩:=w;exact⟨F,m,ρ,h,R,(aD.bind p).mono (by rintro x H1 ⟨F1,m1,h1,a,s,R1,ra,p1⟩;exact P F1 m1 h1 H1 x a Q Ew R1 ra p1)⟩
theorem mt:RA X T Ew [] ag:=by with_unfolding_all exact(
  PA.imp vS (by rintro σ H Q ⟨F,m,ρ,h,R,p⟩;exact aD.here p R.toRelH .nil))
theorem au{e:Expr}{es:List Expr}{f:Ex}{fs:Ax}(ha:RE X T Ew e f)(hr:RA X T Ew es fs)(hs:sE0 X e es:=by rfl):RA X T Ew (e::es) (ae f fs):=by with_unfolding_all
 refine PA.imp (rY ha hr hs) ?_;rintro σ H Q ⟨F,m,ρ,h,R,p⟩;refine⟨F,m,ρ,h,R,(aD.bind p).mono ?_⟩;rintro x H1 ⟨F1,m1,h1,a,s,R1,ra,p1⟩;refine⟨F1,m1,ρ,h1,R.of s R1,(aD.bind p1).mono ?_⟩;rintro y H2 ⟨F2,m2,h2,b,s2,R2,rb,p2⟩;exact aD.here p2 R2 (.cons (s2.rep ra) rb)
theorem oG{op:Operator}{r:R2}{g:PV→PV→List PO→Res PV}{a b:Expr}{fa fb:Ex}{pos:Pos}(ho:Ov X (binaryOp op) r)(P:et X.K T r g)(ha:RE X T Ew a fa)(hb:RE X T Ew b fb):RE X T Ew (.BinOp a op b pos) (c2 g fa fb):=by with_unfolding_all exact(
 PE.imp (Jo ho ha hb) fun σ H Q w=>w2 P w)
theorem IW{op:UnaryOp}{r:V→Hp→VK→Prop}{g:PV→List PO→Res PV}{a:Expr}{fa:Ex}{pos:Pos}(ho:Zw X (unaryOp op) r)(P:Gd X.K T r g)(ha:RE X T Ew a fa):RE X T Ew (.UnaryOp op a pos) (c1 g fa):=by with_unfolding_all exact(
 PE.imp (Jm ho ha) fun σ H Q w=>w1 P w)
theorem ki{op:CmpOp}{r:R2}{g:PV→PV→List PO→Res PV}{a b:Expr}{fa fb:Ex}{pos:Pos}(ho:Ov X (compareOp op) r)(P:et X.K T r g)(ha:RE X T Ew a fa)(hb:RE X T Ew b fb)(hm:behindInMarks op b=false):RE X T Ew (.Compare a [op] [b] pos) (c2 g fa fb):=by with_unfolding_all exact(
 PE.imp (Ef ho ha hb hm) fun σ H Q w=>w2 P w)
end
noncomputable def Tw(h:List PO):PV→Option (List PV)
 |.lst xs=>some xs
 |.ref i=>match h[i]? with
  |some (.lst xs)=>some xs
  |_=>none
 |_=>none
def Tp(h:List PO):PV→Option (List PV)
 |.Qs xs=>some xs
 |p=>Tw h p
noncomputable def Wu(h:List PO):PV→Option (List (PK×PV))
 |.dct kvs=>some kvs
 |.ref i=>match h[i]? with
  |some (.dct kvs)=>some kvs
  |_=>none
 |_=>none
def Vt(h:List PO):PV→Option (List PV)
 |.tup xs=>some xs
 |p=>Tp h p
section
variable{K:W.Frag}{T:Tab}{F H:Hp}{m:List Addr}{h:List PO}{p:PV}{x:V}{ps:List PV}
theorem jG(R:RelH K T F m h H)(r:aF K T F m p x)(e:Tw h p=some ps):∃a vs,x=.ref a∧H a=some (.lst vs)∧ak K T F m ps vs:=by
 cases r with
 |lst ef rr=>simp only[Tw,Option.some.injEq]at e;subst e;exact⟨_,_,rfl,R.same _ _ ef,rr⟩
 |@ref i a em=>
  have e:(match h[i]? with|some (.lst xs)=>some xs|_=>none)=some ps:=e
  cases q:h[i]? with
  |none=>rw[q]at e;cases e
  |some o=>
   rw[q]at e
   cases o with
   |lst xs=>simp only[Option.some.injEq]at e;subst e;obtain⟨_,vs,e1,rr⟩:=R.obj i _ a q em;exact⟨a,vs,rfl,e1,rr⟩
   |dct _=>cases e
   |J7 _=>cases e
 |_=>simp[Tw]at e
theorem eU(R:RelH K T F m h H)(r:aF K T F m p x)(e:Tp h p=some ps):∃a vs,x=.ref a∧Og K H a vs∧ak K T F m ps vs:=by
 by_cases hg:∃xs,p= .Qs xs
 ·obtain⟨xs,rfl⟩:=hg;simp only[Tp,Option.some.injEq]at e;subst e
  cases r with
  |Qs ef rr=>exact⟨_,_,rfl,R.same.seq ef,rr⟩
 ·have e':Tw h p=some ps:=by
   unfold Tp at e
   split at e
   ·exact absurd ⟨_,rfl⟩ hg
   ·exact e
  obtain⟨a,vs,e1,e2,rr⟩:=jG R r e';exact⟨a,vs,e1,Og.of e2,rr⟩
theorem eR(R:RelH K T F m h H)(r:aF K T F m (.tup ps) x):∃a vs,x=.ref a∧O5 K H a vs∧ak K T F m ps vs:=by
 cases r with
 |tup ef rr=>exact⟨_,_,rfl,R.same.Rt ef,rr⟩
theorem nH(R:RelH K T F m h H)(r:aF K T F m p x)(e:Vt h p=some ps):∃a vs,x=.ref a∧(Og K H a vs∨O5 K H a vs)∧ak K T F m ps vs:=by
 by_cases hg:∃xs,p=.tup xs
 ·obtain⟨xs,rfl⟩:=hg;simp only[Vt,Option.some.injEq]at e;subst e;obtain⟨a,vs,e1,e2,rr⟩:=eR R r;exact⟨a,vs,e1,.inr e2,rr⟩
 ·have e':Tp h p=some ps:=by
   unfold Vt at e
   split at e
   ·exact absurd ⟨_,rfl⟩ hg
   ·exact e
  obtain⟨a,vs,e1,e2,rr⟩:=eU R r e';exact⟨a,vs,e1,.inl e2,rr⟩
theorem lL{kps:List (PK×PV)}(R:RelH K T F m h H)(r:aF K T F m p x)(e:Wu h p=some kps):∃a kvs,x=.ref a∧Rd H a (.dK kvs)∧kvs.map (·.1)=kps.map (fun p=>tk p.1)∧ak K T F m (kps.map (·.2)) (kvs.map (·.2)):=by
 cases r with
 |dct ef k rr=>simp only[Wu,Option.some.injEq]at e;subst e;exact⟨_,_,rfl,.inr ⟨_,R.same _ _ ef⟩,k,rr⟩
 |@ref i a em=>
  have e:(match h[i]? with|some (.dct xs)=>some xs|_=>none)=some kps:=e
  cases q:h[i]? with
  |none=>rw[q]at e;cases e
  |some o=>
   rw[q]at e
   cases o with
   |dct xs=>simp only[Option.some.injEq]at e;subst e;obtain⟨_,vs,e1,k,rr⟩:=R.obj i _ a q em;exact⟨a,vs,rfl,.inl e1,k,rr⟩
   |lst _=>cases e
   |J7 _=>cases e
 |_=>simp[Wu]at e
theorem ak.at{ps:List PV}{vs:List V}{i:Int}{p:PV}(r:ak K T F m ps vs)(e:O8 ps i=some p):∃v,O8 vs i=some v∧aF K T F m p v:=by
 unfold O8 at e ⊢;rw[← r.length]
 cases q:TY ps.length i with
 |none=>rw[q]at e;cases e
 |some j=>rw[q]at e;simp only[Option.bind_some]at e ⊢;exact r.get e
end
theorem Ov.or{X:Cx}{f:Value→Value→Sem Value}{r r':R2}(h:Ov X f r)(h':Ov X f r'):Ov X f (fun x y H Q=>r x y H Q∨r' x y H Q):=by
 intro pins s σ H x y v u Q I rx ry q;rcases q with q|q
 ·exact h pins s σ H x y v u Q I rx ry q
 ·exact h' pins s σ H x y v u Q I rx ry q
theorem dh.or{X:Cx}{f:Value}{r r':List V→Hp→VK→Prop}(h:dh X f r)(h':dh X f r'):dh X f (fun x H Q=>r x H Q∨r' x H Q):=by
 intro pins s σ H x v Q I rx q;rcases q with q|q
 ·exact h pins s σ H x v Q I rx q
 ·exact h' pins s σ H x v Q I rx q
section
variable{K:W.Frag}{T:Tab}{F H:Hp}{m:List Addr}{h:List PO}{Q:VK}{Ew:XK}
theorem aQ{p:PV}{x:V}(w:aD K T (aF K T) F m H Q Ew (.ok p h))(R:RelH K T F m h H)(r:aF K T F m p x):Q x H:=w F m H x .refl R r
theorem fC{ps:List PV}{vs:List V}(w:aD K T (aF K T) F m H Q Ew (.ok (.lst ps) h))(R:RelH K T F m h H)(r:ak K T F m ps vs):∀p,H p=none→Q (.ref p) (upd H p (.lst vs)):=fun p hp=>by obtain⟨s,R'⟩:=aX.lay (o:=.lst vs) R hp;exact w _ m _ _ s R' (.lst aG (s.reps r))
theorem kZ{ps:List PV}{vs:List V}(w:aD K T (aF K T) F m H Q Ew (.ok (.tup ps) h))(R:RelH K T F m h H)(r:ak K T F m ps vs):∀p,H p=none→Q (.ref p) (upd H p (.tup vs)):=fun p hp=>by obtain⟨s,R'⟩:=aX.lay (o:=.tup vs) R hp;exact w _ m _ _ s R' (.tup (O5.of aG) (s.reps r))
theorem oO{ps:List PV}{vs:List V}(w:aD K T (aF K T) F m H Q Ew (.ok (.ref h.length) (h++ [.lst ps])))(R:RelH K T F m h H)(r:ak K T F m ps vs):∀p,H p=none→Q (.ref p) (upd H p (.lst vs)):=fun p hp=>by
 have hF:F p=none:=R.same.free hp
 have hm:p∉m:=fun z=>by
  obtain⟨i,e⟩:=List.mem_iff_getElem?.mp z
  have hi:i<h.length:=by
   rw[R.len];rcases Nat.lt_or_ge i m.length with q|q
   ·exact q
   ·rw[List.getElem?_eq_none q]at e;cases e
  have e2:h[i]? =some h[i]:=List.getElem?_eq_getElem hi;have q:=R.obj i _ p e2 e
  cases ho:h[i]with
  |lst xs=>rw[ho]at q;obtain⟨_,vs,z,_⟩:=q;rw[hp]at z;cases z
  |dct xs=>rw[ho]at q;obtain⟨_,vs,z,_⟩:=q;rw[hp]at z;cases z
  |J7 xs=>rw[ho]at q;obtain⟨_,_,o,z⟩:=q;rw[hF]at z;cases z
 have st:aX F m H F (m++ [p]) (upd H p (.lst vs)):=by
  refine⟨cD.refl _,⟨[p],rfl⟩,fun b o e _=>by rw[ai (ar e hp)];exact e,fun b o e=>⟨o,by rw[ai (ar e hp)];exact e⟩,fun i a hi e=>?_,fun a o e=>.inl e⟩;rw[List.getElem?_append_right hi]at e
  have:a=p:=by
   cases q:i - m.length with
   |zero=>rw[q]at e;simpa using e.symm
   |succ k=>rw[q]at e;simp at e
  rw[this];exact hp
 refine w F (m++ [p]) _ _ st ⟨fun b o e=>by rw[ai (ar (R.same b o e) hp)];exact R.same b o e,by simp[R.len],fun i o a e1 e2=>?_,?_⟩ (.ref (by rw[R.len];simp))
 ·rcases Nat.lt_or_ge i h.length with hi|hi
  ·rw[List.getElem?_append_left hi]at e1;rw[List.getElem?_append_left (by rw[← R.len];exact hi)]at e2;have q:=R.obj i o a e1 e2
   cases o with
   |lst xs=>obtain⟨f,ws,z,rr⟩:=q;exact⟨f,ws,by rw[ai (ar z hp)];exact z,st.reps rr⟩
   |dct xs=>obtain⟨f,ws,z,k,rr⟩:=q;exact⟨f,ws,by rw[ai (ar z hp)];exact z,k,st.reps rr⟩
   |J7 q'=>obtain⟨r1,r2,r3⟩:=q;exact⟨st.rep r1,r2,r3⟩
  ·have Uu:i=h.length:=by
    rcases Nat.lt_or_ge i (h.length+1)with z|z
    ·omega
    ·rw[List.getElem?_eq_none (by simp;omega)]at e1;cases e1
   subst Uu;have e1':o=.lst ps:=by simpa using e1.symm
   subst e1';have Yw:a=p:=by rw[R.len]at e2;simpa using e2.symm
   subst Yw;exact⟨hF,vs,aG,st.reps r⟩
 ·refine List.nodup_append.mpr ⟨R.nd,by simp,fun a ha b hb=>?_⟩;have:b=p:=by simpa using hb
  subst this
  rintro rfl
  exact hm ha
end
def vU(p q:PV)(h:List PO):Res PV:=match p,q with
 |.int i,.int j=>.ok (.int (i+j)) h
 |.int i,.bl b=>.ok (.int (i+b2i b)) h
 |.str a,.str b=>if a.length+b.length≤sizeLine then .ok (.str (a++b)) h else .bad
 |.tup a,.tup b=>if a.isEmpty=false∧a.length+b.length≤sizeLine then .ok (.tup (a++b)) h else .bad
 |p,q=>match Tw h p,Tw h q with
  |some a,some b=>if a.length+b.length≤sizeLine then .ok (.lst (a++b)) h else .bad
  |_,_=>.bad
def xw(K:W.Frag):R2:=fun x y H Q=>(Vv fun i j=>V.int (i+j)) x y H Q∨(∃i k,x=.int i∧y=.bl k∧Q (.int (i+b2i k)) H)∨
 (∃i j,x=.str i∧y=.str j∧i.length+j.length≤sizeLine∧Q (.str (i++j)) H)∨Fy K x y H Q∨Jj x y H Q
theorem xK{X:Cx}:Ov X (binaryOp .Add) (xw X.K):=Ov.or HB (Ov.or zk (Ov.or vW (Ov.or Em HA)))
theorem pK(a b:List Nat):S a++S b=S (a++b):=by show(⟨(S a).cps++(S b).cps⟩:Str)=_;simp[S]
theorem Bf{K:W.Frag}{T:Tab}:et K T (xw K) vU:=by
 intro F m h H x y p q Q Ew R rp rq w;unfold vU at w
 split at w
 ·cases rp;cases rq;exact .inl ⟨_,_,rfl,rfl,aQ w R (.int _)⟩
 ·cases rp;cases rq;exact .inr (.inl ⟨_,_,rfl,rfl,aQ w R (.int _)⟩)
 ·rename_i a b
  cases rp;cases rq
  split at w
  ·rename_i hz;exact .inr (.inr (.inl ⟨_,_,rfl,rfl,by rw[fJ,fJ];exact hz,by rw[pK];exact aQ w R (.str _)⟩))
  ·exact w.elim
 ·rename_i a b
  split at w
  ·rename_i hz;obtain⟨pa,va,rfl,ea,ra⟩:=eR R rp;obtain⟨pb,vb,rfl,eb,rb⟩:=eR R rq;refine .inr (.inr (.inr (.inl ⟨pa,pb,va,vb,rfl,rfl,ea,eb,fun z=>?_,by rw[← ra.length,← rb.length];exact hz.2,fun z=>?_,fun _=>kZ w R (ra.append rb)⟩)))
   ·subst z;have:=ra.length
    cases a with
    |nil=>simp at hz
    |cons _ _=>simp at this
   ·subst z;have:=rb.length
    cases b with
    |nil=>rw[List.append_nil]at w;exact aQ w R rp
    |cons _ _=>simp at this
  ·exact w.elim
 ·split at w
  ·rename_i a b e1 e2
   split at w
   ·rename_i hz;obtain⟨pa,va,rfl,ea,ra⟩:=jG R rp e1;obtain⟨pb,vb,rfl,eb,rb⟩:=jG R rq e2;exact .inr (.inr (.inr (.inr ⟨pa,pb,va,vb,rfl,rfl,ea,eb,by rw[← ra.length,← rb.length];exact hz,fC w R (ra.append rb)⟩)))
   ·exact w.elim
  ·exact w.elim
noncomputable def pI(C:Int→Int→Bool)(g:Int→Int→Int)(p q:PV)(h:List PO):Res PV:=match p,q with
 |.int i,.int j=>if C i j=true then .ok (.int (g i j)) h else .bad
 |_,_=>.bad
theorem Bg{K:W.Frag}{T:Tab}{C:Int→Int→Bool}{C':Int→Int→Prop}{g:Int→Int→Int}(hC:∀i j,C i j=true→C' i j):et K T (rI C' fun i j=>.int (g i j)) (pI C g):=by
 intro F m h H x y p q Q Ew R rp rq w;unfold pI at w
 split at w
 ·cases rp;cases rq
  split at w
  ·rename_i hc;exact⟨_,_,rfl,rfl,hC _ _ hc,aQ w R (.int _)⟩
  ·exact w.elim
 ·exact w.elim
noncomputable def km(p q:PV)(h:List PO):Res PV:=match p,q with
 |.int i,.int j=>.ok (.int (i - j)) h
 |_,_=>.bad
theorem Bb{K:W.Frag}{T:Tab}:et K T (Vv fun i j=>.int (i - j)) km:=by
 intro F m h H x y p q Q Ew R rp rq w;unfold km at w
 split at w
 ·cases rp;cases rq;exact⟨_,_,rfl,rfl,aQ w R (.int _)⟩
 ·exact w.elim
abbrev bP:=pI (fun _ j=>decide (0<j)) (fun i j=>i % j)
abbrev dU:=pI (fun _ j=>decide (0<j∧j<1073741824)) (fun i j=>i / j)
noncomputable def RM(n:Nat)(i:Int):Bool:=Nat.blt i.natAbs n
theorem bR{n:Nat}{i:Int}:RM n i=true↔ -(n:Int)<i∧i<(n:Int):=by unfold RM;rw[Nat.blt_eq];omega
noncomputable def JE(i j:Int):Bool:=decide (Builtin.Int.intBits i+Builtin.Int.intBits j≤134217728)
def hJ(i j:Int):Bool:=RM 18446744073709551616 i||(RM 18446744073709551616 j||JE i j)
noncomputable def mr{α:Type}(xs:List α)(k:Int):List α:=(List.replicate k.toNat xs).flatten
def iG(p q:PV)(h:List PO):Res PV:=match p,q with
 |.int i,.int j=>if hJ i j=true then .ok (.int (i * j)) h else .bad
 |.str a,.int k=>if RM 1048576 k=true∧a.length * k.toNat≤1048576 then .ok (.str (mr a k)) h else .bad
 |p,.int k=>match Tw h p with
  |some xs=>if RM 9223372036854775808 k=true∧xs.length * k.toNat≤sizeLine then .ok (.lst (mr xs k)) h else .bad
  |_=>.bad
 |_,_=>.bad
theorem Ek{X:Cx}:Ov X (binaryOp .Mult) (rI IntMulOk fun i j=>.int (i * j)):=ZX fun _ _ _ _ _ _ _ hc q=>mul_int q hc
def AS:R2:=fun x y H Q=>rI IntMulOk (fun i j=>.int (i * j)) x y H Q∨Fw x y H Q∨Jf x y H Q
theorem xJ{X:Cx}:Ov X (binaryOp .Mult) AS:=Ov.or Ek (Ov.or vV Hy)
theorem qN(l:List Nat):∀(k:Nat)(acc:List Nat),(List.replicate k l.toArray).foldl (· ++ ·) acc.toArray=(acc++(List.replicate k l).flatten).toArray
 |0,acc=>by simp
 |k+1,acc=>by
  rw[List.replicate_succ,List.foldl_cons,List.replicate_succ,List.flatten_cons,← List.append_assoc,← qN l k (acc++l)]
  congr 1
  simp
theorem Kk(a:List Nat)(k:Int):Txt.mul (S a) k=S (mr a k):=by
 unfold Txt.mul mr
 by_cases h1:k<1
 ·rw[if_pos h1];have:k.toNat=0:=by omega
  rw[this];rfl
 ·rw[if_neg h1]
  by_cases h2:k=1
  ·subst h2;simp
  ·by_cases h3:(S a).length=0
   ·rw[if_pos (by simp[h3])];have:a= []:=by rw[fJ]at h3;exact List.length_eq_zero_iff.mp h3
    subst this
    have e:∀n:Nat,(List.replicate n ([]:List Nat)).flatten= []:=fun n=>by induction n with
     |zero=>rfl
     |succ n ih=>rw[List.replicate_succ,List.flatten_cons,ih];rfl
    rw[e]
   ·rw[if_neg (by simp[h2,h3])];have:=qN a k.toNat [];rw[List.nil_append]at this;show(⟨_⟩:Str)=⟨_⟩
    congr 1
theorem ut{K:W.Frag}{T:Tab}:et K T AS iG:=by
 intro F m h H x y p q Q Ew R rp rq w;unfold iG at w
 split at w
 ·cases rp;cases rq
  split at w
  ·rename_i hc
   exact .inl ⟨_,_,rfl,rfl,(by
    unfold hJ at hc;rw[Bool.or_eq_true,Bool.or_eq_true,bR,bR]at hc;rcases hc with c|c|c
    ·exact Fm.ok (.inl c)
    ·exact Fm.ok (.inr c)
    ·exact IntMulOk.of_le (ab2 _) (ab2 _) (of_decide_eq_true c)),aQ w R (.int _)⟩
  ·exact w.elim
 ·rename_i a k
  cases rp;cases rq
  split at w
  ·rename_i hc;obtain⟨h12,h3⟩:=hc;obtain⟨h1,h2⟩:=bR.mp h12;refine .inr (.inl ⟨_,_,rfl,rfl,⟨?_,fun g1 g2=>?_,fun g1 g2=>?_⟩,by rw[Kk];exact aQ w R (.str _)⟩)
   ·simp;omega
   ·have hl:((S a).length:Int)≤2 ^ 20:=by rw[fJ];have:a.length * 1≤a.length * k.toNat:=Nat.mul_le_mul_left _ (by omega);omega
    have:(2:Int) ^ 20≤(2 ^ 63 - 1) / k:=by rw[Int.le_ediv_iff_mul_le (by omega)];have:(2:Int) ^ 20 * k≤2 ^ 20 * 2 ^ 20:=Int.mul_le_mul_of_nonneg_left (by omega) (by decide);omega
    omega
   ·rw[fJ];unfold Builtin.Str.tooLong;simp;have:(2:Nat) ^ 20≤sizeLine:=by decide
    omega
  ·exact w.elim
 ·rename_i k hs hi
  cases rq
  split at w
  ·rename_i xs e
   split at w
   ·rename_i hc;obtain⟨h12,h3⟩:=hc;obtain⟨Uv,Ws⟩:=bR.mp h12;have h1: -(2 ^ 63)≤k:=by omega
    have h2:k<2 ^ 63:=by omega
    obtain⟨a,vs,rfl,ea,ra⟩:=jG R rp e
    have rr:∀n:Nat,ak K T F m (List.replicate n xs).flatten (List.replicate n vs).flatten:=fun n=>by
     induction n with
     |zero=>exact .nil
     |succ n ih=>rw[List.replicate_succ,List.replicate_succ,List.flatten_cons,List.flatten_cons];exact ra.append ih
    exact .inr (.inr ⟨a,k,vs,rfl,rfl,ea,h1,h2,by rw[← ra.length];exact h3,fC w R (rr _)⟩)
   ·exact w.elim
  ·exact w.elim
 ·exact w.elim
section
variable{X:Cx}{T:Tab}{Ew:XK}{a b:Expr}{fa fb:Ex}{pos:Pos}
theorem rQ(ha:RE X T Ew a fa)(hb:RE X T Ew b fb):RE X T Ew (.BinOp a .Sub b pos) (c2 km fa fb):=by with_unfolding_all exact(
  oG Hx Bb ha hb)
theorem AK(ha:RE X T Ew a fa)(hb:RE X T Ew b fb):RE X T Ew (.BinOp a .Mult b pos) (c2 iG fa fb):=by with_unfolding_all exact(
  oG xJ ut ha hb)
theorem je(ha:RE X T Ew a fa)(hb:RE X T Ew b fb):RE X T Ew (.BinOp a .Mod b pos) (c2 bP fa fb):=by with_unfolding_all exact(
  oG Hz (Bg fun i j h=>of_decide_eq_true h) ha hb)
theorem iB(ha:RE X T Ew a fa)(hb:RE X T Ew b fb):RE X T Ew (.BinOp a .FloorDiv b pos) (c2 dU fa fb):=by with_unfolding_all exact(
  oG El (Bg fun i j h=>(by have z:=of_decide_eq_true h;exact z)) ha hb)
noncomputable def ng(p:PV)(h:List PO):Res PV:=match p with
 |.int i=>.ok (.int (-i)) h
 |_=>.bad
theorem AJ(ha:RE X T Ew a fa):RE X T Ew (.UnaryOp .USub a pos) (c1 ng fa):=by with_unfolding_all exact(
  IW Gk (by
 intro F m h H x p Q Ew R rp w;unfold ng at w
 split at w
 ·cases rp;exact⟨_,rfl,aQ w R (.int _)⟩
 ·exact w.elim) ha)
end
mutual
inductive TV(K:W.Frag)(H:Hp):V→PyData→Prop where
 |non:TV K H .non .none
 |bl (b:Bool):TV K H (.bl b) (.bool b)
 |int (i:Int):TV K H (.int i) (.int i)
 |str (x:Str):TV K H (.str x) (.str x)
 |lst {a:Addr} {vs:List V} {ds:List PyData} (e:Og K H a vs) (r:mQ K H vs ds):TV K H (.ref a) (.list ds)
 |tup {a:Addr} {vs:List V} {ds:List PyData} (e:O5 K H a vs) (r:mQ K H vs ds):TV K H (.ref a) (.tuple ds)
inductive mQ(K:W.Frag)(H:Hp):List V→List PyData→Prop where
 |nil:mQ K H [] []
 |cons {v:V} {d:PyData} {vs:List V} {ds:List PyData} (r:TV K H v d) (t:mQ K H vs ds):mQ K H (v::vs) (d::ds)
end
section
variable{X:Cx}{pins:List (Addr×Obj)}{σ:St}{H:Hp}{s:Shared}
mutual
theorem TV.reads(I:Inv X pins σ H s):∀{x:V}{d:PyData}{u:Value},TV X.K H x d→bn x u→∃as,Reads s.heap u d as
 |_,_,_,.non,r=>by cases r;exact⟨_,.none⟩
 |_,_,_,.bl b,r=>by cases r;exact⟨_,.bool b⟩
 |_,_,_,.int i,r=>by obtain⟨t,rfl⟩:=r;exact⟨_,.int i t⟩
 |_,_,_,.str x,r=>by obtain⟨t,rfl⟩:=r;exact⟨_,.str x t⟩
 |_,_,_,.lst e rr,r=>by
  cases r
  obtain⟨its,rv,⟨o,n,h1,h2,h3,h4⟩,_⟩:=I.list e;obtain⟨as,ra⟩:=mQ.reads I rr rv;exact⟨_,.list h1 h2 h4 (by simpa using ra)⟩
 |_,_,_,.tup e rr,r=>by
  cases r
  obtain⟨its,rv,⟨o,h1,h2,n,h4⟩,_⟩:=I.tuple e;obtain⟨as,ra⟩:=mQ.reads I rr rv;exact⟨_,.tuple h1 h2 h4 (by simpa using ra)⟩
theorem mQ.reads(I:Inv X pins σ H s):∀{xs:List V}{ds:List PyData}{us:List Value},mQ X.K H xs ds→aW xs us→∃as,ReadsAll s.heap us ds as
 |_,_,_,.nil,r=>by cases r;exact⟨_,.nil⟩
 |_,_,_,.cons q t,r=>by
  cases r with
  |cons r1 r2=>obtain⟨as,ra⟩:=TV.reads I q r1;obtain⟨bs,rb⟩:=mQ.reads I t r2;exact⟨_,.cons ra rb⟩
end
end
mutual
def toD:PV→PyData
 |.non=>.none
 |.bl b=>.bool b
 |.int i=>.int i
 |.str l=>.str (S l)
 |.tup xs=>.tuple (gv xs)
 |.lst xs=>.list (gv xs)
 |.Qs xs=>.list (gv xs)
 |_=>.dict []
def gv:List PV→List PyData
 |[]=>[]
 |x::r=>toD x::gv r
end
theorem oj:∀l:List PV,gv l=l.map toD
 |[]=>by simp[gv]
 |x::r=>by simp[gv,oj r]
def Qm(h:List PO):PV→PyData
 |.ref i=>match h[i]? with
  |some (.lst xs)=>.list (gv xs)
  |_=>.dict []
 |p=>toD p
section
variable{K:W.Frag}{T:Tab}{F H:Hp}{m:List Addr}
mutual
theorem aF.rd(sm:cD F H):∀{p:PV}{x:V},aF K T F m p x→(toD p).canLay0=true→TV K H x (toD p)
 |_,_,.non,_=>by simp only[toD];exact .non
 |_,_,.bl b,_=>by simp only[toD];exact .bl b
 |_,_,.int i,_=>by simp only[toD];exact .int i
 |_,_,.str x,_=>by simp only[toD];exact .str _
 |_,_,.ty n,h=>by simp[toD,PyData.canLay0]at h
 |_,_,.cls c,h=>by simp[toD,PyData.canLay0]at h
 |_,_,.tup e r,h=>by simp only[toD]at h ⊢;exact .tup (sm.Rt e) (ak.rd sm r (by simpa[PyData.canLay0]using h))
 |_,_,.lst e r,h=>by simp only[toD]at h ⊢;exact .lst (Og.of (sm _ _ e)) (ak.rd sm r (by simpa[PyData.canLay0]using h))
 |_,_,.Qs e r,h=>by simp only[toD]at h ⊢;exact .lst (sm.seq e) (ak.rd sm r (by simpa[PyData.canLay0]using h))
 |_,_,.dct e k r,h=>by simp[toD,PyData.canLay0]at h
 |_,_,.ins c e d k r,h=>by simp[toD,PyData.canLay0]at h
 |_,_,.ref e,h=>by simp[toD,PyData.canLay0]at h
theorem ak.rd(sm:cD F H):∀{p:List PV}{x:List V},ak K T F m p x→PyData.canLayAll0 (gv p)=true→mQ K H x (gv p)
 |_,_,.nil,_=>by simp only[gv];exact .nil
 |_,_,.cons r t,h=>by simp only[gv,PyData.canLayAll0,ab1]at h ⊢;exact .cons (aF.rd sm r h.1) (ak.rd sm t h.2)
end
theorem aF.Y4{h:List PO}(R:RelH K T F m h H){p:PV}{x:V}(r:aF K T F m p x)(c:(Qm h p).canLay0=true):TV K H x (Qm h p):=by
 by_cases hr:∃i,p=.ref i
 ·obtain⟨i,rfl⟩:=hr
  cases r with
  |@ref _ a e=>
   have c':(match h[i]? with|some (.lst xs)=>PyData.list (gv xs)|_=>.dict []).canLay0=true:=c;show TV K H (.ref a) (match h[i]? with|some (.lst xs)=>PyData.list (gv xs)|_=>.dict [])
   cases q:h[i]? with
   |none=>rw[q]at c';simp[PyData.canLay0]at c'
   |some o=>
    rw[q]at c'
    cases o with
    |lst xs=>obtain⟨_,vs,e1,rr⟩:=R.obj i _ a q e;exact .lst (Og.of e1) (ak.rd R.same rr (by simpa[PyData.canLay0]using c'))
    |dct _=>simp[PyData.canLay0]at c'
    |J7 _=>simp[PyData.canLay0]at c'
 ·have e:Qm h p=toD p:=by
   unfold Qm
   split
   ·exact absurd ⟨_,rfl⟩ hr
   ·rfl
  rw[e]at c ⊢;exact aF.rd R.same r c
end
def PB(h:List PO)(p:PV):Bool:=(Qm h p).canLay0&&decide ((Qm h p).depth≤60)
def M8(p q:PV)(h:List PO):Res PV:=if PB h p=true∧PB h q=true then .ok (.bl (PyData.eqv (Qm h p) (Qm h q))) h else .bad
def Ry(p q:PV)(h:List PO):Res PV:=if PB h p=true∧PB h q=true then .ok (.bl (!PyData.eqv (Qm h p) (Qm h q))) h else .bad
noncomputable def DO(K:W.Frag)(neg:Bool):R2:=fun x y H Q=>∃d e,TV K H x d∧TV K H y e∧d.canLay0=true∧e.canLay0=true∧d.depth≤60∧Q (.bl (if neg then !PyData.eqv d e else PyData.eqv d e)) H
section
variable{X:Cx}{T:Tab}{Ew:XK}{a b:Expr}{fa fb:Ex}{pos:Pos}
theorem BE(hu:X.A.units+64<cLine):Ov X (compareOp .Eq) (DO X.K false):=by intro pins s σ H x y v u Q I rx ry h;obtain⟨d,e,h1,h2,c1,c2,dp,q⟩:=h;obtain⟨as,ra⟩:=h1.reads I rx;obtain⟨bs,rb⟩:=h2.reads I ry;exact SeqAt.compareEq_reads ra rb c1 c2 (by have:=Nat.min_le_left d.depth e.depth;omega) ⟨.bl _,H,I,rfl,q⟩
theorem BB(hu:X.A.units+64<cLine):Ov X (compareOp .NotEq) (DO X.K true):=by intro pins s σ H x y v u Q I rx ry h;obtain⟨d,e,h1,h2,c1,c2,dp,q⟩:=h;obtain⟨as,ra⟩:=h1.reads I rx;obtain⟨bs,rb⟩:=h2.reads I ry;exact SeqAt.compareNe_reads ra rb c1 c2 (by have:=Nat.min_le_left d.depth e.depth;omega) ⟨.bl _,H,I,rfl,q⟩
theorem xE{K:W.Frag}{T:Tab}:et K T (DO K false) M8:=by
 intro F m h H x y p q Q Ew R rp rq w;unfold M8 at w
 split at w
 ·rename_i hc;unfold PB at hc;simp only[ab1,decide_eq_true_eq]at hc;exact⟨_,_,rp.Y4 R hc.1.1,rq.Y4 R hc.2.1,hc.1.1,hc.2.1,hc.1.2,aQ w R (.bl _)⟩
 ·exact w.elim
theorem xC{K:W.Frag}{T:Tab}:et K T (DO K true) Ry:=by
 intro F m h H x y p q Q Ew R rp rq w;unfold Ry at w
 split at w
 ·rename_i hc;unfold PB at hc;simp only[ab1,decide_eq_true_eq]at hc;exact⟨_,_,rp.Y4 R hc.1.1,rq.Y4 R hc.2.1,hc.1.1,hc.2.1,hc.1.2,aQ w R (.bl _)⟩
 ·exact w.elim
noncomputable def zj(g:Int→Int→Bool)(p q:PV)(h:List PO):Res PV:=match p,q with
 |.int i,.int j=>.ok (.bl (g i j)) h
 |_,_=>.bad
theorem dZ{K:W.Frag}{T:Tab}{g:Int→Int→Bool}:et K T (Vv fun i j=>.bl (g i j)) (zj g):=by
 intro F m h H x y p q Q Ew R rp rq w;unfold zj at w
 split at w
 ·cases rp;cases rq;exact⟨_,_,rfl,rfl,aQ w R (.bl _)⟩
 ·exact w.elim
abbrev Vw:=zj fun i j=>decide (i<j)
abbrev Uq:=zj fun i j=>decide (j<i)
abbrev pGe:=zj fun i j=>decide (j≤i)
noncomputable def jr:PV→Bool
 |.non=>true
 |_=>false
theorem qJ{K:W.Frag}{T:Tab}{F:Hp}{m:List Addr}{p:PV}{x:V}(r:aF K T F m p x):decide (x=.non)=jr p:=by cases r<;>simp[jr]
def Vx(p q:PV)(h:List PO):Res PV:=match q with
 |.non=>.ok (.bl (jr p)) h
 |_=>.bad
def fN(p q:PV)(h:List PO):Res PV:=match q with
 |.non=>.ok (.bl (!jr p)) h
 |_=>.bad
end
noncomputable def eM(y x:List Nat)(lo:Nat):Option Nat:=(List.range (x.length+1)).find? fun i=>decide (lo≤i)&&y.isPrefixOf (x.drop i)
theorem qf(x y:List Nat)(i:Nat)(hi:i+y.length≤x.length):Builtin.Str.subAt (S x) (S y) i=y.isPrefixOf (x.drop i):=by
 unfold Builtin.Str.subAt;rw[fJ];rw[Bool.eq_iff_iff,beq_iff_eq,List.isPrefixOf_iff_prefix]
 have e:(S x).cps.extract i (i+y.length)=((x.drop i).take y.length).toArray:=by apply Array.toList_inj.mp;simp[S,List.extract_eq_drop_take]
 rw[e];show((x.drop i).take y.length).toArray=(S y).cps↔_;constructor
 ·intro h;have h':(x.drop i).take y.length=y:=by simpa[S]using congrArg Array.toList h
  refine⟨(x.drop i).drop y.length,?_⟩;have q:=List.take_append_drop y.length (x.drop i);rw[h']at q;exact q
 ·rintro⟨t,ht⟩
  rw[← ht,List.take_left];rfl
theorem wM(x y:List Nat)(i:Nat):StrLaws.At (S x) (S y) (S x).length i↔i≤x.length∧y.isPrefixOf (x.drop i)=true:=by
 unfold StrLaws.At;rw[fJ,fJ];constructor
 ·rintro⟨h1,h2⟩
  rw[qf x y i h1]at h2;exact⟨by omega,h2⟩
 ·rintro⟨h1,h2⟩
  have:i+y.length≤x.length:=by have:=(List.isPrefixOf_iff_prefix.mp h2).length_le;rw[List.length_drop]at this;omega
  exact⟨this,by rw[qf x y i this];exact h2⟩
theorem vZ(x y:List Nat)(lo:Nat):Builtin.Str.occurrences (S x) (S y) lo (S x).length 1=(eM y x lo).toList:=by
 have L_:=StrLaws.occ_length_le (S x) (S y) lo (S x).length 1;rcases StrLaws.occ_head_from (S x) (S y) lo 1 (ab2 _)with⟨h0,hn⟩|⟨i,r,h0,hl,ha,hn⟩
 ·rw[h0]
  have:eM y x lo=none:=by unfold eM;rw[List.find?_eq_none];intro i hi hc;simp only[ab1,decide_eq_true_eq]at hc;exact hn i hc.1 ((wM x y i).mpr ⟨by have:=List.mem_range.mp hi;omega,hc.2⟩)
  rw[this];rfl
 ·rw[h0]at L_ ⊢
  have hr:r= []:=by cases r with
   |nil=>rfl
   |cons _ _=>simp at L_
  subst hr;obtain⟨a1,a2⟩:=(wM x y i).mp ha
  have:eM y x lo=some i:=by
   unfold eM;rw[List.find?_range_eq_some];refine⟨by simp[hl,a2],by simp;omega,fun j hj=>?_⟩;simp only[Bool.not_eq_true',Bool.and_eq_false_iff,decide_eq_false_iff_not];rcases Nat.lt_or_ge j lo with q|q
   ·exact .inl (by omega)
   ·right
    cases z:y.isPrefixOf (x.drop j)with
    |false=>rfl
    |true=>exact absurd ((wM x y j).mpr ⟨by omega,z⟩) (hn j q hj)
  rw[this];rfl
def Cl(y x:List Nat):Bool:=(eM y x 0).isSome
theorem MB(x y:List Nat):(!(Builtin.Str.occurrences (S x) (S y) 0 (S x).length 1).isEmpty)=Cl y x:=by
 rw[vZ];unfold Cl
 cases eM y x 0<;>rfl
noncomputable def lF:PV→Option PK
 |.int i=>some (.inl i)
 |.str l=>some (.inr l)
 |_=>none
noncomputable def il(kvs:List (PK×PV))(k:PK):Option PV:=(kvs.find? fun kv=>decide (kv.1=k)).map (·.2)
theorem jH{K:W.Frag}{T:Tab}{F:Hp}{m:List Addr}{p:PV}{x:V}{k:PK}(r:aF K T F m p x)(e:lF p=some k):x=kV (tk k):=by cases r<;>simp[lF]at e<;>subst e<;>rfl
theorem oh{K:W.Frag}{T:Tab}{F:Hp}{m:List Addr}:∀{kps:List (PK×PV)}{kvs:List (Key×V)},kvs.map (·.1)=kps.map (fun p=>tk p.1)→ak K T F m (kps.map (·.2)) (kvs.map (·.2))→∀k:PK,
  (∃p v,il kps k=some p∧lW kvs (tk k)=some v∧aF K T F m p v)∨(il kps k=none∧lW kvs (tk k)=none)
 |[],[],_,_,k=>.inr ⟨rfl,rfl⟩
 |[],_::_,h,_,_=>by simp at h
 |_::_,[],h,_,_=>by simp at h
 |(k1,p1)::kps,(k2,v2)::kvs,h,r,k=>by
  simp only[List.map_cons,List.cons.injEq]at h
  cases r with
  |cons r1 r2=>
   by_cases e:k1=k
   ·subst e;exact .inl ⟨p1,v2,by simp[il],by rw[kI (p:=(k2,v2)) h.1],r1⟩
   ·have e2:¬ k2=tk k:=fun z=>e (vz (h.1.symm.trans z));rw[kJ (p:=(k2,v2)) e2];have:il ((k1,p1)::kps) k=il kps k:=by simp[il,e]
    rw[this];exact oh h.2 r2 k
def zi(p q:PV)(h:List PO):Option Bool:=match q with
 |.str b=>match p with
  |.str a=>some (Cl a b)
  |_=>none
 |q=>match Wu h q with
  |some kvs=>match lF p with
   |some k=>some (il kvs k).isSome
   |none=>none
  |none=>match Vt h q with
   |some xs=>if PB [] p=true∧xs.all (PB [])=true then some (xs.any fun y=>PyData.eqv (toD y) (toD p))else none
   |none=>none
def U4(p q:PV)(h:List PO):Res PV:=match zi p q h with
 |some b=>.ok (.bl b) h
 |none=>.bad
def jj(p q:PV)(h:List PO):Res PV:=match zi p q h with
 |some b=>.ok (.bl (!b)) h
 |none=>.bad
noncomputable def DN(K:W.Frag)(neg:Bool):R2:=fun x y H Q=>∃b:Bool,Q (.bl (if neg then !b else b)) H∧
  ((∃i j,x=.str i∧y=.str j∧b=!(Builtin.Str.occurrences j i 0 j.length 1).isEmpty)∨(∃a o,y=.ref a∧vk H a x o∧b=o.isSome)∨
   (∃p xs d ds,y=.ref p∧(Og K H p xs∨O5 K H p xs)∧TV K H x d∧mQ K H xs ds∧d.canLay0=true∧ds.all PyData.canLay0=true∧d.depth≤60∧b=ds.any fun e=>PyData.eqv e d))
section
variable{X:Cx}{T:Tab}{Ew:XK}{a b:Expr}{fa fb:Ex}{pos:Pos}
noncomputable def jS(h:Heap)(d:PyData)(y:Value):Bool:=open Classical in if q:∃e as,Reads h y e as∧e.canLay0=true then PyData.eqv q.choose d else false
theorem yj{h:Heap}{d e:PyData}{y:Value}{as:List Addr}(r:Reads h y e as)(c:e.canLay0=true):jS h d y=PyData.eqv e d:=by
 have q:∃e as,Reads h y e as∧e.canLay0=true:=⟨e,as,r,c⟩
 unfold jS;rw[dif_pos q];obtain⟨as',r',c'⟩:=q.choose_spec;rw[SeqAt.Reads.unique _ _ _ _ _ c r r']
theorem jA{h:Heap}{d:PyData}:∀{us:List Value}{ds:List PyData}{as:List Addr},ReadsAll h us ds as→ds.all PyData.canLay0=true→us.any (jS h d)=ds.any fun e=>PyData.eqv e d
 |_,_,_,.nil,_=>rfl
 |_,_,_,.cons r t,c=>by simp only[List.all_cons,ab1]at c;rw[List.any_cons,List.any_cons,yj r c.1,jA t c.2]
theorem jm{A:Around}{s:Shared}{d:PyData}{v:Value}{bs:List Addr}(rv:Reads s.heap v d bs)(cd:d.canLay0=true)(hu:A.units+d.depth<cLine):
  ∀{us:List Value}{ds:List PyData}{as:List Addr},ReadsAll s.heap us ds as→ds.all PyData.canLay0=true→∀u∈us,SeqAt.EqAt A s u v (jS s.heap d u)
 |_,_,_,.nil,_=>fun u hu=>by cases hu
 |_,_,_,.cons r t,c=>fun u Wn=>by
  simp only[List.all_cons,ab1]at c;rcases List.mem_cons.mp Wn with rfl|Wn
  ·rw[yj r c.1];exact SeqAt.eqAt_reads _ _ A s _ _ _ _ r rv c.1 cd (by have:=Nat.min_le_right (PyData.depth ‹PyData›) d.depth;omega)
  ·exact jm rv cd hu t c.2 u Wn
theorem sf(hu:X.A.units+64<cLine):Ov X (compareOp .In) (DN X.K false):=by
 intro pins s σ H x y v u Q I rx ry h;obtain⟨b,q,h⟩:=h;have fin:∀s',Inv X pins σ H s'→EP X pins σ Q (.bool b) s':=fun s' I'=>⟨.bl b,H,I',rfl,q⟩
 rcases h with⟨i,j,rfl,rfl,rfl⟩|⟨a,o,rfl,g,rfl⟩|⟨p,xs,d,ds,rfl,sq,rd,X3,c1,c2,dp,rfl⟩
 ·obtain⟨t,rfl⟩:=rx;obtain⟨t',rfl⟩:=ry;exact in_str (fin s I)
 ·cases ry
  exact Mt (by omega) I g rx fun s' I'=>fin s' I'
 ·cases ry
  obtain⟨as,ra⟩:=rd.reads I rx;rcases sq with hq|hq
  ·obtain⟨its,r,pl,hz⟩:=I.list hq;obtain⟨bs,rb⟩:=X3.reads I r;refine SeqAt.in_listAt (jS s.heap d) pl.isList (fun w hw=>jm ra c1 (by show X.A.units+1+_<_;omega) rb c2 w (by simpa using hw)) ?_;rw[show its.toArray.any (jS s.heap d)=its.any (jS s.heap d) by simp,jA rb c2];exact fin s I
  ·obtain⟨its,r,pl,hz⟩:=I.tuple hq;obtain⟨bs,rb⟩:=X3.reads I r;refine SeqAt.in_tupleAt (jS s.heap d) pl (fun w hw=>jm ra c1 (by show X.A.units+1+_<_;omega) rb c2 w (by simpa using hw)) ?_;rw[show its.toArray.any (jS s.heap d)=its.any (jS s.heap d) by simp,jA rb c2];exact fin s I
theorem qr(hu:X.A.units+64<cLine):Ov X (compareOp .NotIn) (DN X.K true):=by
 intro pins s σ H x y v u Q I rx ry h;obtain⟨b,q,h⟩:=h;have fin:∀s',Inv X pins σ H s'→EP X pins σ Q (.bool (!b)) s':=fun s' I'=>⟨.bl (!b),H,I',rfl,q⟩
 rcases h with⟨i,j,rfl,rfl,rfl⟩|⟨a,o,rfl,g,rfl⟩|⟨p,xs,d,ds,rfl,sq,rd,X3,c1,c2,dp,rfl⟩
 ·obtain⟨t,rfl⟩:=rx;obtain⟨t',rfl⟩:=ry;exact notIn_str (fin s I)
 ·cases ry
  exact Fc (by omega) I g rx fun s' I'=>fin s' I'
 ·cases ry
  obtain⟨as,ra⟩:=rd.reads I rx;rcases sq with hq|hq
  ·obtain⟨its,r,pl,hz⟩:=I.list hq;obtain⟨bs,rb⟩:=X3.reads I r;refine SeqAt.notIn_listAt (jS s.heap d) pl.isList (fun w hw=>jm ra c1 (by show X.A.units+1+_<_;omega) rb c2 w (by simpa using hw)) ?_;rw[show its.toArray.any (jS s.heap d)=its.any (jS s.heap d) by simp,jA rb c2];exact fin s I
  ·obtain⟨its,r,pl,hz⟩:=I.tuple hq;obtain⟨bs,rb⟩:=X3.reads I r;refine SeqAt.notIn_tupleAt (jS s.heap d) pl (fun w hw=>jm ra c1 (by show X.A.units+1+_<_;omega) rb c2 w (by simpa using hw)) ?_;rw[show its.toArray.any (jS s.heap d)=its.any (jS s.heap d) by simp,jA rb c2];exact fin s I
theorem ym(p:PV):Qm [] p=toD p:=by
 unfold Qm
 split
 ·simp[toD]
 ·rfl
theorem gu:∀l:List PyData,PyData.canLayAll0 l=l.all PyData.canLay0
 |[]=>by simp[PyData.canLayAll0]
 |x::r=>by simp[PyData.canLayAll0,gu r]
theorem ux{K:W.Frag}{T:Tab}{F H:Hp}{m:List Addr}{h:List PO}{p q:PV}{x y:V}{k:Bool}(R:RelH K T F m h H)(rp:aF K T F m p x)(rq:aF K T F m q y)(e:zi p q h=some k):
    (∃i j,x=.str i∧y=.str j∧k=!(Builtin.Str.occurrences j i 0 j.length 1).isEmpty)∨(∃a o,y=.ref a∧vk H a x o∧k=o.isSome)∨
   (∃p xs d ds,y=.ref p∧(Og K H p xs∨O5 K H p xs)∧TV K H x d∧mQ K H xs ds∧d.canLay0=true∧ds.all PyData.canLay0=true∧d.depth≤60∧k=ds.any fun e=>PyData.eqv e d):=by
  unfold zi at e
  split at e
  · rename_i b
    split at e
    · rename_i a
      cases rp;cases rq
      simp only[Option.some.injEq]at e;subst e;exact .inl ⟨_,_,rfl,rfl,(MB b a).symm⟩
    · cases e
  · split at e
    · rename_i kvs ed
      split at e
      · rename_i kk ek
        simp only[Option.some.injEq]at e;subst e;obtain⟨a,ws,rfl,rd,kq,rr⟩:=lL R rq ed;have hx:=jH rp ek;subst hx;refine .inr (.inl ⟨a,lW ws (tk kk),rfl,.inl ⟨ws,tk kk,rd,rfl,rfl⟩,?_⟩);rcases oh kq rr kk with⟨p1,v1,h1,h2,_⟩|⟨h1,h2⟩
        · rw[h1,h2];rfl
        · rw[h1,h2];rfl
      · cases e
    · split at e
      · rename_i xs es
        split at e
        · rename_i hc
          simp only[Option.some.injEq]at e;subst e;obtain⟨a,ws,rfl,sq,rr⟩:=nH R rq es
          have h1:(toD p).canLay0=true∧(toD p).depth≤60:=by have:=hc.1;unfold PB at this;simpa[ym]using this
          have h2:PyData.canLayAll0 (gv xs)=true:=by rw[gu,oj,List.all_map];rw[List.all_eq_true]at hc ⊢;intro z hz;have:=hc.2 z hz;unfold PB at this;rw[ym,ab1]at this;exact this.1
          refine .inr (.inr ⟨a,ws,toD p,gv xs,rfl,sq,rp.rd R.same h1.1,rr.rd R.same h2,h1.1,by rw[← gu];exact h2,h1.2,?_⟩);rw[oj,List.any_map];rfl
        · cases e
      · cases e
theorem nI{K:W.Frag}{T:Tab}:et K T (DN K false) U4:=by
 intro F m h H x y p q Q Ew R rp rq w;unfold U4 at w
 split at w
 ·rename_i b e;exact⟨b,aQ w R (.bl b),ux R rp rq e⟩
 ·exact w.elim
theorem oN{K:W.Frag}{T:Tab}:et K T (DN K true) jj:=by
 intro F m h H x y p q Q Ew R rp rq w;unfold jj at w
 split at w
 ·rename_i b e;exact⟨b,aQ w R (.bl (!b)),ux R rp rq e⟩
 ·exact w.elim
end
def cut{α:Type}(xs:List α)(lo hi:Option Int):List α:=(xs.drop (HT.J9 xs.length 0 lo)).take (HT.J9 xs.length xs.length hi - HT.J9 xs.length 0 lo)
theorem IT(lo hi:Option Int)(n:Nat):Builtin.Str.strSliceIndices lo hi 1 n=(List.range (HT.J9 n n hi - HT.J9 n 0 lo)).map (HT.J9 n 0 lo+ ·):=by
 rw[← sliceRange_one];unfold Builtin.Str.strSliceIndices
 have e1:∀d:Nat,d≤n→∀o:Option Int,(match o with|none=>(d:Int)|some i=>(if(1:Int)>0 then max 0 (min (if i<0 then i+(n:Int)else i) n)else max (-1) (min (if i<0 then i+(n:Int)else i) ((n:Int) - 1))))=((HT.J9 n d o:Nat):Int):=by
  intro d hd o
  cases o with
  |none=>rfl
  |some i=>
   simp only[show(1:Int)>0 by decide,if_true,HT.J9]
   by_cases h:i<0
   ·simp only[h,if_true];omega
   ·simp only[h,if_false];omega
 have e2:=e1 0 (Nat.zero_le _) lo;have e3:=e1 n (ab2 _) hi;simp only[show(1:Int)>0 by decide,if_true]at e2 e3 ⊢;rw[← e2,← e3];rfl
theorem Fk(l:List Nat)(lo hi:Option Int):Txt.slice (S l) lo hi=S (cut l lo hi):=by
 unfold Txt.slice;have hn:(S l).length=l.length:=fJ l;rw[hn,IT];have hlo:=HT.T_ l.length 0 (Nat.zero_le _) lo;have hhi:=HT.T_ l.length l.length (ab2 _) hi
 split
 ·rename_i h
  have h':HT.J9 l.length l.length hi - HT.J9 l.length 0 lo=l.length:=by simpa using h
  have e0:HT.J9 l.length 0 lo=0:=by omega
  unfold cut;rw[h',e0];simp
 ·rw[pick_run];show(⟨_⟩:Str)=⟨_⟩
  unfold cut;simp[S]
section
variable{K:W.Frag}{T:Tab}{F H:Hp}{m:List Addr}{h:List PO}
theorem ak.cut{ps:List PV}{vs:List V}(r:ak K T F m ps vs)(lo hi:Option Int):ak K T F m (cut ps lo hi) (uU vs lo hi):=by unfold L3.cut L2.uU;rw[← r.length];exact(r.drop _).take _
end
def b_(p q:PV)(h:List PO):Res PV:=match p,q with
 |.str l,.int i=>match O8 l i with
  |some c=>if l.length≤sizeLine then .ok (.str [c]) h else .bad
  |none=>.bad
 |.tup xs,.int i=>match O8 xs i with
  |some v=>.ok (aj h v) h
  |none=>.bad
 |p,q=>match Wu h p with
  |some kvs=>match lF q with
   |some k=>match il kvs k with
    |some v=>.ok (aj h v) h
    |none=>.bad
   |none=>.bad
  |none=>match Tp h p with
   |some xs=>match q with
    |.int i=>match O8 xs i with
     |some v=>.ok (aj h v) h
     |none=>.bad
    |_=>.bad
   |none=>.bad
def Lk(K:W.Frag):R2:=fun x y H Q=>rIx K x y H Q∨∃a v,x=.ref a∧vk H a y (some v)∧Q v H
theorem DW{K:W.Frag}{T:Tab}:et K T (Lk K) b_:=by
 intro F m h H x y p q Q Ew R rp rq w;unfold b_ at w
 split at w
 ·rename_i l i
  cases rp;cases rq
  split at w
  ·rename_i c e
   split at w
   ·rename_i hz;exact .inl (.inr (.inr ⟨_,_,c,rfl,rfl,by rw[fJ];exact hz,by rw[Kl];exact e,aQ w R (.str [c])⟩))
   ·exact w.elim
  ·exact w.elim
 ·rename_i xs i
  cases rq
  split at w
  ·rename_i v e;obtain⟨a,vs,rfl,ea,ra⟩:=eR R rp;obtain⟨u,eu,ru⟩:=ra.at e;exact .inl (.inr (.inl ⟨a,vs,i,u,rfl,rfl,ea,eu,aQ w R (R.TF ru)⟩))
  ·exact w.elim
 ·split at w
  ·rename_i kvs ed
   split at w
   ·rename_i k ek
    split at w
    ·rename_i v ev;obtain⟨a,ws,rfl,rd,kq,rr⟩:=lL R rp ed;have hy:=jH rq ek;subst hy;rcases oh kq rr k with⟨p1,v1,h1,h2,r1⟩|⟨h1,h2⟩
     ·rw[ev]at h1;cases h1;exact .inr ⟨a,v1,rfl,.inl ⟨ws,tk k,rd,rfl,h2.symm⟩,aQ w R (R.TF r1)⟩
     ·rw[ev]at h1;cases h1
    ·exact w.elim
   ·exact w.elim
  ·split at w
   ·rename_i xs el
    split at w
    ·cases rq
     split at w
     ·rename_i v e;obtain⟨a,vs,rfl,ea,ra⟩:=eU R rp el;obtain⟨u,eu,ru⟩:=ra.at e;exact .inl (.inl ⟨a,vs,_,u,rfl,rfl,ea,eu,aQ w R (R.TF ru)⟩)
     ·exact w.elim
    ·exact w.elim
   ·exact w.elim
section
variable{X:Cx}{T:Tab}{Ew:XK}{a b:Expr}{fa fb:Ex}{pos:Pos}
theorem EE(hu:X.A.units+1<cLine):Vo X (fun x y H Q=>∃a v,x=.ref a∧vk H a y (some v)∧Q v H):=by
 intro value slice pins s σ H x y v u Q I rx ry q hs;obtain⟨a,v1,rfl,g,q⟩:=q
 cases rx
 have hT:=uT I g;unfold subscriptTail;refine wpAny_bind ?_;rw[getitemInPython_of_ne hT.not_modules];refine wpAny_bind (wpAny_specialOf hT PySem.F.slot_dict_getitem.lookup ?_)
 have fin:wpAny (model X.prog X.w) X.A (subscripted slice false (.ref a) u) (fun r s₃=>wpAny (model X.prog X.w) X.A (letTemporaryGo value (.ref a) r >>= fun _=>pure r) (EP X pins σ Q) X.xe s₃) X.xe s:=by rw[hs];exact wpAny_operating (wpAny_mono (zG (E:=X.xe) hu I g ry fun w' s3 I3 Uo=>show EP X pins σ Q w' s3 from⟨v1,H,I3,Uo,q⟩) (fun r s₃ h₃=>wpAny_bind (wpAny_letTemporaryGo (wpAny_pure h₃))) fun _ _ x=>x)
 first
  |exact wpAny_pure (wpAny_bind fin)
  |exact wpAny_bind (wpAny_pure (wpAny_bind fin))
  |exact wpAny_bind fin
theorem cU(hu:X.A.units+64<cLine)(ha:RE X T Ew a fa)(hb:RE X T Ew b fb)(hs:∀o i,subscripted b false o i=operate [o,i] (getItem o i):=by intro _ _;rfl):RE X T Ew (.Subscript a b pos) (c2 b_ fa fb):=by with_unfolding_all exact(
 PE.imp (Jp (Vo.or HU (EE (by omega))) ha hb hs) fun σ H Q w=>w2 DW w)
abbrev Ox:=Ev→List PO→Res (Option Int)
@[irreducible] def RO(X:Cx)(T:Tab)(Ew:XK)(e:Option Expr)(f:Ox):Prop:=L2.PO X e (fun σ H Q=>∃F m ρ h,fY X.K T F m ρ h σ H∧aD X.K T (fun _ _ (a b:Option Int)=>a=b) F m H Q Ew (f ρ h))
noncomputable def iV:Ox:=fun _ h=>.ok none h
def gF(f:Ex):Ox:=fun ρ h=>(f ρ h).bind fun p h1=>match p with
 |.int i=>.ok (some i) h1
 |_=>.bad
theorem DG:RO X T Ew none iV:=by with_unfolding_all exact(
  (by rintro pins s σ H Q I ⟨F,m,ρ,h,R,p⟩;exact DZ pins s σ H Q I (aD.here p R.toRelH rfl)))
theorem DF{e:Expr}{f:Ex}(he:RE X T Ew e f):RO X T Ew (some e) (gF f):=by with_unfolding_all exact(
  fun pins s σ H Q I ⟨F,m,ρ,h,R,p⟩=>by
 refine DY he pins s σ H Q I ⟨F,m,ρ,h,R,(aD.bind p).mono ?_⟩;rintro x H1 ⟨F1,m1,h1,a,s1,R1,ra,p1⟩
 cases ra with
 |int i=>exact⟨i,rfl,aD.here p1 R1 rfl⟩
 |_=>exact p1.elim)
def Y5(p:PV)(lo hi:Option Int)(h:List PO):Res PV:=match p with
 |.str l=>if l.length≤sizeLine then .ok (.str (cut l lo hi)) h else .bad
 |.tup xs=>if HT.J9 xs.length 0 lo=0∧HT.J9 xs.length xs.length hi=xs.length then .bad else .ok (.tup (cut xs lo hi)) h
 |p=>match Tp h p with
  |some xs=>.ok (.lst (cut xs lo hi)) h
  |none=>.bad
def Jd(K:W.Frag):V→Option Int→Option Int→Hp→VK→Prop:=fun x l u H Q=>Jb x l u H Q∨Ja K x l u H Q∨Jc K x l u H Q
theorem xB{K:W.Frag}{F H:Hp}{m:List Addr}{h:List PO}{Q:VK}{p:PV}{x:V}{lo hi:Option Int}(R:RelH K T F m h H)(rp:aF K T F m p x)(w:aD K T (aF K T) F m H Q Ew (Y5 p lo hi h)):Jd K x lo hi H Q:=by
 unfold Y5 at w
 split at w
 ·cases rp
  split at w
  ·rename_i hz;exact .inl ⟨_,rfl,by rw[fJ];exact hz,by rw[Fk];exact aQ w R (.str _)⟩
  ·exact w.elim
 ·rename_i xs
  split at w
  ·exact w.elim
  ·rename_i hz;obtain⟨a,vs,rfl,ea,ra⟩:=eR R rp;exact .inr (.inl ⟨a,vs,rfl,ea,by rw[← ra.length];exact hz,kZ w R (ra.cut lo hi)⟩)
 ·split at w
  ·rename_i xs el;obtain⟨a,vs,rfl,ea,ra⟩:=eU R rp el;exact .inr (.inr ⟨a,vs,rfl,ea,fC w R (ra.cut lo hi)⟩)
  ·exact w.elim
theorem jf{x:Str}{id:String}{r:List V→Hp→VK→Prop}{g:List PV→List PO→Res PV}{e:Expr}{es:List Expr}{f:Ax}{p:Pos}(hc:dh X (.builtin id) r)(P:pM X.K T r g)(hg:Gl X x)(hm:X.mg x=none)(hv:bootBuiltins x=some (.builtin id))
  (ha:RA X T Ew (e::es) f) (hn:x≠"__name__":=by decide) (Ql:nD0 x:=by decide)(he:sE0 X e es:=by rfl) (Oc:sP0 X es pos:=by rfl):
  RE X T Ew (.Call (.Name x p) (e::es) [] pos) (cN g f):=by with_unfolding_all exact(
  PE.imp (Bu hc hg hm hv ha hn Ql he Oc) fun σ H Q w=>wN P w)
theorem jD{x:Str}{id:String}{r:List V→Hp→VK→Prop}{g:List PV→List PO→Res PV}{e:Expr}{es:List Expr}{f:Ax}{p:Pos}(hc:dh X (.type id) r)(P:pM X.K T r g)(hg:Gl X x)(hm:X.mg x=none)(hv:bootBuiltins x=some (.type id))
  (ha:RA X T Ew (e::es) f) (hn:x≠"__name__":=by decide) (Ql:nD0 x:=by decide)(he:sE0 X e es:=by rfl) (Oc:sP0 X es pos:=by rfl):
  RE X T Ew (.Call (.Name x p) (e::es) [] pos) (cN g f):=by with_unfolding_all exact(
  PE.imp (zh hc hg hm hv ha hn Ql he Oc) fun σ H Q w=>wN P w)
def JG(h:List PO)(p:PV):Option Nat:=match p with
 |.str l=>if l.length≤sizeLine then some l.length else none
 |p=>match Wu h p with
  |some kvs=>some kvs.length
  |none=>match Vt h p with
   |some xs=>some xs.length
   |none=>none
def cV(ps:List PV)(h:List PO):Res PV:=match ps with
 |[p]=>match JG h p with
  |some n=>.ok (.int n) h
  |none=>.bad
 |_=>.bad
theorem zN{X:Cx}:dh X (.builtin "len") (fun xs H Q=>∃a kvs,xs= [V.ref a]∧Rd H a (.dK kvs)∧Q (.int kvs.length) H):=by
 intro pins s σ H xs us Q I r h;obtain⟨a,kvs,rfl,ha,q⟩:=h;obtain⟨u,rfl,ru⟩:=og r
 cases ru
 exact Kc I ha fun t s' I'=>⟨.int kvs.length,H,I',⟨t,rfl⟩,q⟩
theorem zO{X:Cx}:dh X (.builtin "len") (fun xs H Q=>(∃p ys,xs= [.ref p]∧(Og X.K H p ys∨O5 X.K H p ys)∧Q (.int ys.length) H)∨(∃z,xs= [.str z]∧z.length≤sizeLine∧Q (.int z.length) H)∨∃a kvs,xs= [V.ref a]∧Rd H a (.dK kvs)∧Q (.int kvs.length) H):=
 dh.or sZ (dh.or sY zN)
theorem ak.one{K:W.Frag}{F:Hp}{m:List Addr}{p:PV}{xs:List V}(r:ak K T F m [p] xs):∃x,xs= [x]∧aF K T F m p x:=by
 cases r with
 |cons r t=>cases t;exact⟨_,rfl,r⟩
theorem ak.two{K:W.Frag}{F:Hp}{m:List Addr}{p q:PV}{xs:List V}(r:ak K T F m [p,q] xs):∃x y,xs= [x,y]∧aF K T F m p x∧aF K T F m q y:=by
 cases r with
 |cons r t=>cases t with
  |cons r2 t2=>cases t2;exact⟨_,_,rfl,r,r2⟩
theorem Bd{K:W.Frag}{T:Tab}:pM K T (fun xs H Q=>(∃p ys,xs= [.ref p]∧(Og K H p ys∨O5 K H p ys)∧Q (.int ys.length) H)∨(∃z,xs= [.str z]∧z.length≤sizeLine∧Q (.int z.length) H)∨∃a kvs,xs= [V.ref a]∧Rd H a (.dK kvs)∧Q (.int kvs.length) H) cV:=by
 intro F m h H xs ps Q Ew R rp w;unfold cV at w
 split at w
 ·rename_i p;obtain⟨x,rfl,rx⟩:=rp.one
  split at w
  ·rename_i n e;unfold JG at e
   split at e
   ·cases rx
    split at e
    ·rename_i hz;simp only[Option.some.injEq]at e;subst e;exact .inr (.inl ⟨_,rfl,by rw[fJ];exact hz,by rw[fJ];exact aQ w R (.int _)⟩)
    ·cases e
   ·split at e
    ·rename_i kvs ed;simp only[Option.some.injEq]at e;subst e;obtain⟨a,ws,rfl,rd,kq,rr⟩:=lL R rx ed;have hl:ws.length=kvs.length:=by have:=congrArg List.length kq;simpa using this
     exact .inr (.inr ⟨a,ws,rfl,rd,by rw[hl];exact aQ w R (.int _)⟩)
    ·split at e
     ·rename_i ys es;simp only[Option.some.injEq]at e;subst e;obtain⟨a,ws,rfl,sq,rr⟩:=nH R rx es;exact .inl ⟨a,ws,rfl,sq,by rw[← rr.length];exact aQ w R (.int _)⟩
     ·cases e
  ·exact w.elim
 ·exact w.elim
def oi(h:List PO):PV→Option String
 |.non=>some "NoneType"
 |.bl _=>some "bool"
 |.int _=>some "int"
 |.str _=>some "str"
 |.tup _=>some "tuple"
 |p=>match Wu h p with
  |some _=>some "dict"
  |none=>match Tp h p with
   |some _=>some "list"
   |none=>none
noncomputable def Fs(t c:String):Bool:=(t==c)||(t=="bool"&&c=="int")
noncomputable def yc:List String:=["str","int","bool","list","tuple","dict"]
def dB(ps:List PV)(h:List PO):Res PV:=match ps with
 |[p,.ty c]=>if yc.contains c=true then match oi h p with
   |some t=>.ok (.bl (Fs t c)) h
   |none=>.bad
  else .bad
 |_=>.bad
end
inductive VJ(K:W.Frag)(H:Hp):V→String→Prop where
 |non:VJ K H .non "NoneType"
 |bl (x:Bool):VJ K H (.bl x) "bool"
 |int (i:Int):VJ K H (.int i) "int"
 |str (x:Str):VJ K H (.str x) "str"
 |lst {a:Addr} {xs:List V} (e:Og K H a xs):VJ K H (.ref a) "list"
 |tup {a:Addr} {xs:List V} (e:O5 K H a xs):VJ K H (.ref a) "tuple"
 |dct {a:Addr} {kvs:List (Key×V)} (e:Rd H a (.dK kvs)):VJ K H (.ref a) "dict"
theorem tf{X:Cx}:dh X (.builtin "isinstance") (fun xs H Q=>∃x c t b,xs= [x,.ty c]∧VJ X.K H x t∧W.kitOne X.K (.type t) (.type c)=some b∧Q (.bl b) H):=by
 intro pins s σ H xs us Q I r h;obtain⟨x,c,t,b,rfl,ty,e,q⟩:=h;obtain⟨u,w',rfl,ru,Uo⟩:=Af r
 cases(show w'=Value.type c from Uo)
 have fin:∀tk,EP X pins σ Q (.bool b) { s with toks:=tk }:=fun tk=>⟨.bl b,H,I.tok tk,rfl,q⟩
 cases ty with
 |non=>cases(show u=Value.none from ru);exact W.kia_one W.kitx_none I.RJ True.intro e (fun z=>nomatch z) fin
 |bl y=>cases(show u=Value.bool y from ru);exact W.kia_one W.kitx_bool I.RJ True.intro e (fun z=>nomatch z) fin
 |int i=>obtain⟨t,q⟩:=(show∃t,u=Value.int i t from ru);cases q;exact W.kia_one W.kitx_int I.RJ True.intro e (fun z=>nomatch z) fin
 |str y=>obtain⟨t,q⟩:=(show∃t,u=Value.str y t from ru);cases q;exact W.kia_one W.kitx_str I.RJ True.intro e (fun z=>nomatch z) fin
 |lst ea=>
  cases ru
  obtain⟨its,_,⟨o,n,h1,h2,_,_⟩,_⟩:=I.list ea;exact W.kia_one W.kitx_list I.RJ ⟨_,h1,h2⟩ e (fun z=>nomatch z) fin
 |tup ea=>
  cases ru
  obtain⟨its,_,⟨o,h1,h2,_⟩,_⟩:=I.tuple ea;exact W.kia_one W.kitx_tuple I.RJ ⟨o,h1,h2⟩ e (fun z=>nomatch z) fin
 |dct ea=>
  cases ru
  obtain⟨_,_,vs,_,p⟩:=mV I.hok ea;obtain⟨o,es,ep,h1,h2,_⟩:=p;exact W.kia_one W.kitx_dict I.RJ ⟨o,h1,h2.1⟩ e (fun z=>nomatch z) fin
theorem vv{K:W.Frag}{T:Tab}{F H:Hp}{m:List Addr}{h:List PO}{p:PV}{x:V}{t:String}(R:RelH K T F m h H)(r:aF K T F m p x)(e:oi h p=some t):VJ K H x t:=by
 unfold oi at e
 split at e
 ·cases e;cases r;exact .non
 ·cases e;cases r;exact .bl _
 ·cases e;cases r;exact .int _
 ·cases e;cases r;exact .str _
 ·cases e
  obtain⟨a,vs,rfl,ea,_⟩:=eR R r;exact .tup ea
 ·split at e
  ·rename_i kvs ed
   cases e
   obtain⟨a,ws,rfl,rd,_⟩:=lL R r ed;exact .dct rd
  ·split at e
   ·rename_i xs es
    cases e
    obtain⟨a,ws,rfl,sq,_⟩:=eU R r es;exact .lst sq
   ·cases e
theorem zw(K:W.Frag){t c:String}(ht:t∈ ["NoneType","bool","int","str","tuple","dict","list"])(hc:yc.contains c=true):W.kitOne K (.type t) (.type c)=some (Fs t c):=by
 have W_:c∈yc:=by simpa using hc
 simp only[yc,List.mem_cons,List.not_mem_nil,or_false]at W_ ht;rcases ht with rfl|rfl|rfl|rfl|rfl|rfl|rfl<;>rcases W_ with rfl|rfl|rfl|rfl|rfl|rfl<;>rfl
theorem vw{h:List PO}{p:PV}{t:String}(e:oi h p=some t):t∈ ["NoneType","bool","int","str","tuple","dict","list"]:=by
 unfold oi at e
 split at e
 ·cases e;simp
 ·cases e;simp
 ·cases e;simp
 ·cases e;simp
 ·cases e;simp
 ·split at e
  ·cases e;simp
  ·split at e
   ·cases e;simp
   ·cases e
section
variable{X:Cx}{T:Tab}{Ew:XK}{a b:Expr}{fa fb:Ex}{pos p0:Pos}
theorem uu{K:W.Frag}{T:Tab}:pM K T (fun xs H Q=>∃x c t b,xs= [x,.ty c]∧VJ K H x t∧W.kitOne K (.type t) (.type c)=some b∧Q (.bl b) H) dB:=by
 intro F m h H xs ps Q Ew R rp w;unfold dB at w
 split at w
 ·rename_i p c;obtain⟨x,y,rfl,rx,ry⟩:=rp.two
  cases ry
  split at w
  ·rename_i hc
   split at w
   ·rename_i t e;exact⟨x,c,t,_,rfl,vv R rx e,zw K (vw e) hc,aQ w R (.bl _)⟩
   ·exact w.elim
  ·exact w.elim
 ·exact w.elim
theorem GT{x:Str}{n:String}{pos:Pos}(hg:Gl X x)(hm:X.mg x=none)(hv:bootBuiltins x=some (.type n))(hn:x≠"__name__":=by decide)(hd:nD0 x:=by decide):RE X T Ew (.Name x pos) (cK (.ty n)):=by with_unfolding_all exact(
 fB (Eg (v:=.ty n) hg hm hv rfl hn hd) fun _ _=>.ty n)
theorem yV{e:Expr}{es:List Expr}{f:Ax}(hg:Gl X "isinstance")(hm:X.mg "isinstance"=none)(ha:RA X T Ew (e::es) f)
  (he:sE0 X e es:=by rfl) (Oc:sP0 X es pos:=by rfl):
  RE X T Ew (.Call (.Name "isinstance" p0) (e::es) [] pos) (cN dB f):=by with_unfolding_all exact(
  jf tf uu hg hm (by decide+kernel) ha (by decide) (by decide) he Oc)
theorem GW{e:Expr}{es:List Expr}{f:Ax}(hg:Gl X "len")(hm:X.mg "len"=none)(ha:RA X T Ew (e::es) f)
  (he:sE0 X e es:=by rfl) (Oc:sP0 X es pos:=by rfl):
  RE X T Ew (.Call (.Name "len" p0) (e::es) [] pos) (cN cV f):=by with_unfolding_all exact(
  jf zO Bd hg hm (by decide+kernel) ha (by decide) (by decide) he Oc)
noncomputable def vT(ps:List PV)(h:List PO):Res PV:=match ps with
 |[.int i]=>.ok (.int i) h
 |[.bl b]=>.ok (.int (if b then 1 else 0)) h
 |_=>.bad
theorem rV{e:Expr}{es:List Expr}{f:Ax}(hg:Gl X "int")(hm:X.mg "int"=none)(ha:RA X T Ew (e::es) f)
  (he:sE0 X e es:=by rfl) (Oc:sP0 X es pos:=by rfl):
  RE X T Ew (.Call (.Name "int" p0) (e::es) [] pos) (cN vT f):=by with_unfolding_all exact(
  jD zP (by
 intro F m h H xs ps Q Ew R rp w;unfold vT at w
 split at w
 ·obtain⟨x,rfl,rx⟩:=rp.one
  cases rx
  exact .inl ⟨_,rfl,aQ w R (.int _)⟩
 ·obtain⟨x,rfl,rx⟩:=rp.one
  cases rx
  exact .inr ⟨_,rfl,aQ w R (.int _)⟩
 ·exact w.elim) hg hm (by decide+kernel) ha (by decide) (by decide) he Oc)
def fM(ps:List PV)(h:List PO):Res PV:=match ps with
 |[p]=>match Vt h p with
  |some xs=>.ok (.tup xs) h
  |none=>.bad
 |_=>.bad
theorem oF{e:Expr}{es:List Expr}{f:Ax}(hg:Gl X "tuple")(hm:X.mg "tuple"=none)(ha:RA X T Ew (e::es) f)
  (he:sE0 X e es:=by rfl) (Oc:sP0 X es pos:=by rfl):
  RE X T Ew (.Call (.Name "tuple" p0) (e::es) [] pos) (cN fM f):=by with_unfolding_all exact(
  jD qa (by
 intro F m h H xs ps Q Ew R rp w;unfold fM at w
 split at w
 ·rename_i p;obtain⟨x,rfl,rx⟩:=rp.one
  split at w
  ·rename_i ys es
   by_cases ht:∃zs,p=.tup zs
   ·obtain⟨zs,rfl⟩:=ht;simp only[Vt,Option.some.injEq]at es;subst es;obtain⟨a,vs,rfl,ea,ra⟩:=eR R rx;exact⟨a,vs,rfl,.inr ⟨ea,aQ w R rx⟩⟩
   ·have e':Tp h p=some ys:=by
     unfold Vt at es
     split at es
     ·exact absurd ⟨_,rfl⟩ ht
     ·exact es
    obtain⟨a,vs,rfl,ea,ra⟩:=eU R rx e';exact⟨a,vs,rfl,.inl ⟨ea,kZ w R ra⟩⟩
  ·exact w.elim
 ·exact w.elim) hg hm (by decide+kernel) ha (by decide) (by decide) he Oc)
def xI(ps:List PV)(h:List PO):Res PV:=match ps with
 |[p]=>match Vt h p with
  |some xs=>.ok (.lst xs) h
  |none=>.bad
 |_=>.bad
theorem DI{e:Expr}{es:List Expr}{f:Ax}(hg:Gl X "list")(hm:X.mg "list"=none)(ha:RA X T Ew (e::es) f)
  (he:sE0 X e es:=by rfl) (Oc:sP0 X es pos:=by rfl):
  RE X T Ew (.Call (.Name "list" p0) (e::es) [] pos) (cN xI f):=by with_unfolding_all exact(
  jD sX (by
 intro F m h H xs ps Q Ew R rp w;unfold xI at w
 split at w
 ·obtain⟨x,rfl,rx⟩:=rp.one
  split at w
  ·rename_i ys es;obtain⟨a,vs,rfl,ea,ra⟩:=nH R rx es;exact⟨a,vs,rfl,ea,fC w R ra⟩
  ·exact w.elim
 ·exact w.elim) hg hm (by decide+kernel) ha (by decide) (by decide) he Oc)
noncomputable def dM(ps:List PV)(h:List PO):Res PV:=if ps.length≤sizeLine then .ok (.lst ps) h else .bad
noncomputable def gk(ps:List PV)(h:List PO):Res PV:=if ps.length≤sizeLine then .ok (.ref h.length) (h++ [.lst ps])else .bad
noncomputable def aR(ps:List PV)(h:List PO):Res PV:=if ps.length≤sizeLine then .ok (.tup ps) h else .bad
theorem rT{es:List Expr}{f:Ax}(ha:RA X T Ew es f):RE X T Ew (.List es pos) (cN dM f):=by with_unfolding_all
 refine PE.imp (Br ha) ?_;rintro σ H Q ⟨F,m,ρ,h,R,p⟩;refine⟨F,m,ρ,h,R,(aD.bind p).mono ?_⟩;rintro xs H1 ⟨F1,m1,h1,ps,s1,R1,r1,w1⟩
 unfold dM at w1
 split at w1
 ·rename_i hz;exact⟨by rw[← r1.length];exact hz,fC w1 R1 r1⟩
 ·exact w1.elim
theorem rS{es:List Expr}{f:Ax}(ha:RA X T Ew es f):RE X T Ew (.List es pos) (cN gk f):=by with_unfolding_all
 refine PE.imp (Br ha) ?_;rintro σ H Q ⟨F,m,ρ,h,R,p⟩;refine⟨F,m,ρ,h,R,(aD.bind p).mono ?_⟩;rintro xs H1 ⟨F1,m1,h1,ps,s1,R1,r1,w1⟩
 unfold gk at w1
 split at w1
 ·rename_i hz;exact⟨by rw[← r1.length];exact hz,oO w1 R1 r1⟩
 ·exact w1.elim
theorem kh{es:List Expr}{f:Ax}{x1}(ha:RA X T Ew es f):RE X T Ew (.Tuple es x1 pos) (cN aR f):=by with_unfolding_all
 refine PE.imp (Hq ha) ?_;rintro σ H Q ⟨F,m,ρ,h,R,p⟩;refine⟨F,m,ρ,h,R,(aD.bind p).mono ?_⟩;rintro xs H1 ⟨F1,m1,h1,ps,s1,R1,r1,w1⟩
 unfold aR at w1
 split at w1
 ·rename_i hz;exact⟨by rw[← r1.length];exact hz,kZ w1 R1 r1⟩
 ·exact w1.elim
noncomputable def dcM(h:List PO):PV→Option (List (PK×PV))
 |.ref i=>match h[i]? with
  |some (.dct kvs)=>some kvs
  |_=>none
 |_=>none
theorem Fb{K:W.Frag}{F H:Hp}{m:List Addr}{h:List PO}{p:PV}{x:V}{kps:List (PK×PV)}(R:RelH K T F m h H)(r:aF K T F m p x)(e:dcM h p=some kps):∃a kvs,x=.ref a∧H a=some (.dK kvs)∧kvs.map (·.1)=kps.map (fun p=>tk p.1)∧ak K T F m (kps.map (·.2)) (kvs.map (·.2)):=by
 cases r with
 |@ref i a em=>
  have e:(match h[i]? with|some (.dct xs)=>some xs|_=>none)=some kps:=e
  cases q:h[i]? with
  |none=>rw[q]at e;cases e
  |some o=>
   rw[q]at e
   cases o with
   |dct xs=>simp only[Option.some.injEq]at e;subst e;obtain⟨_,vs,e1,k,rr⟩:=R.obj i _ a q em;exact⟨a,vs,rfl,e1,k,rr⟩
   |lst _=>cases e
   |J7 _=>cases e
 |_=>simp[dcM]at e
def ua(h:List PO):PV→Option Bool
 |.non=>some false
 |.bl b=>some b
 |.int i=>some (i !=0)
 |.str l=>if l.length≤sizeLine then some (!l.isEmpty)else none
 |p=>match Vt h p with
  |some xs=>some (!xs.isEmpty)
  |none=>match dcM h p with
   |some kvs=>some (!kvs.isEmpty)
   |none=>none
def kL(f:Ex):Tx:=fun ρ h=>(f ρ h).bind fun p h1=>match ua h1 p with
 |some b=>.ok b h1
 |none=>.bad
theorem jt{α β:Type}{xs:List α}{ys:List β}(h:xs.length=ys.length):xs.isEmpty=ys.isEmpty:=by cases xs<;>cases ys<;>simp at h ⊢
theorem Ak{K:W.Frag}{F H:Hp}{m:List Addr}{h:List PO}{p:PV}{x:V}{k:Bool}(R:RelH K T F m h H)(r:aF K T F m p x)(e:ua h p=some k):Iq K x H k:=by
 unfold ua at e
 split at e
 ·cases e;cases r;exact rfl
 ·cases e;cases r;exact rfl
 ·cases e;cases r;exact rfl
 ·rename_i l
  cases r
  split at e
  ·rename_i hz
   cases e
   refine⟨by rw[fJ];exact hz,?_⟩;rw[fJ]
   cases l<;>simp
   omega
  ·cases e
 ·split at e
  ·rename_i xs es
   cases e
   obtain⟨a,vs,rfl,ea,ra⟩:=nH R r es;rcases ea with ea|ea
   ·exact .inl ⟨vs,ea,by rw[jt ra.length]⟩
   ·exact .inr (.inl ⟨vs,ea,by rw[jt ra.length]⟩)
  ·split at e
   ·rename_i kvs ed
    cases e
    obtain⟨a,ws,rfl,e1,kq,_⟩:=Fb R r ed;have hl:ws.length=kvs.length:=by have:=congrArg List.length kq;simpa using this
    exact .inr (.inr ⟨ws,e1,by rw[jt hl]⟩)
   ·cases e
theorem rK(ha:RE X T Ew a fa)(he:∀whole,isTrue a X.env whole=(do let v ← whole;standAt a.pos;holding [v] (truthy v)):=by intro _;rfl):RT X T Ew a (kL fa):=by with_unfolding_all
 refine PT.imp (AV ha he) ?_;rintro σ H Q ⟨F,m,ρ,h,R,p⟩;refine⟨F,m,ρ,h,R,(aD.bind p).mono ?_⟩;rintro x H1 ⟨F1,m1,h1,p1,s1,R1,r1,w1⟩
 cases e:ua h1 p1 with
 |none=>rw[e]at w1;exact w1.elim
 |some k=>rw[e]at w1;exact⟨k,Ak R1 r1 e,aD.here w1 R1 rfl⟩
def ay(f:Ex):Tx:=fun ρ h=>(f ρ h).bind fun p h1=>match p with
 |.bl b=>.ok b h1
 |_=>.bad
theorem cT{op:CmpOp}{r:R2}{g:PV→PV→List PO→Res PV}(ho:Ov X (compareOp op) r)(P:et X.K T r g)(ha:RE X T Ew a fa)(hb:RE X T Ew b fb)(hm:behindInMarks op b=false):RT X T Ew (.Compare a [op] [b] pos) (ay (c2 g fa fb)):=by with_unfolding_all
 refine PT.imp (DQ ho ha hb hm) ?_;rintro σ H Q ⟨F,m,ρ,h,R,p⟩
 have p':=(aD.bind (R:=aF X.K T) p).mono (Q':=fun x H1=>∃k,x=.bl k∧Q k H1) fun x H1 ⟨F1,m1,h1,p1,s1,R1,r1,w1⟩=>by
  cases r1 with
  |bl k=>exact⟨k,rfl,aD.here w1 R1 rfl⟩
  |_=>exact w1.elim
 exact w2 P ⟨F,m,ρ,h,R,p'⟩
def xg(f:Tx):Tx:=fun ρ h=>(f ρ h).bind fun b h1=>.ok (!b) h1
def iU(f g:Tx):Tx:=fun ρ h=>(f ρ h).bind fun b h1=>if b=true then g ρ h1 else .ok false h1
def iW(f g:Tx):Tx:=fun ρ h=>(f ρ h).bind fun b h1=>if b=true then .ok true h1 else g ρ h1
theorem GK{f:Tx}(ha:RT X T Ew a f):RT X T Ew (.UnaryOp .Not a pos) (xg f):=by with_unfolding_all exact(
 PT.imp (Hc ha) (by rintro σ H Q ⟨F,m,ρ,h,R,p⟩;exact ⟨F,m,ρ,h,R,(aD.bind p).mono (by rintro x H1 ⟨F1,m1,h1,p1,s1,R1,r1,w1⟩;cases r1;exact aD.here w1 R1 rfl)⟩))
@[irreducible] def RW(X:Cx)(T:Tab)(Ew:XK)(e:Expr)(f:Tx):Prop:=PW X e (wT X T Ew f)
theorem RW.rt{e:Expr}{f:Tx}(h:RW X T Ew e f):RT X T Ew e f:=by with_unfolding_all exact(
  PW.pt h)
theorem rH{f:Tx}(ha:RT X T Ew a f):RW X T Ew (.BoolOp .And [a] pos) f:=by with_unfolding_all exact(
  DP ha)
theorem rG{f:Tx}(ha:RT X T Ew a f):RW X T Ew (.BoolOp .Or [a] pos) f:=by with_unfolding_all exact(
  GZ ha)
theorem rJ{f g:Tx}{rest:List Expr}(ha:RT X T Ew a f)(hb:RW X T Ew (.BoolOp .And (b::rest) pos) g):RW X T Ew (.BoolOp .And (a::b::rest) pos) (iU f g):=by with_unfolding_all
 refine PW.imp (Ha ha hb) ?_;rintro σ H Q ⟨F,m,ρ,h,R,p⟩;refine⟨F,m,ρ,h,R,(aD.bind p).mono ?_⟩;rintro x H1 ⟨F1,m1,h1,p1,s1,R1,r1,w1⟩
 cases r1
 cases x with
 |true=>exact pV ⟨F1,m1,ρ,h1,R.of s1 R1,w1⟩
 |false=>exact sE (aD.here w1 R1 rfl)
theorem qg{f g:Tx}{rest:List Expr}(ha:RT X T Ew a f)(hb:RW X T Ew (.BoolOp .Or (b::rest) pos) g):RW X T Ew (.BoolOp .Or (a::b::rest) pos) (iW f g):=by with_unfolding_all
 refine PW.imp (Jk ha hb) ?_;rintro σ H Q ⟨F,m,ρ,h,R,p⟩;refine⟨F,m,ρ,h,R,(aD.bind p).mono ?_⟩;rintro x H1 ⟨F1,m1,h1,p1,s1,R1,r1,w1⟩
 cases r1
 cases x with
 |true=>exact pV (aD.here w1 R1 rfl)
 |false=>exact sE ⟨F1,m1,ρ,h1,R.of s1 R1,w1⟩
def Fg(f g:Ex):Ex:=fun ρ h=>(f ρ h).bind fun p h1=>match p with
 |.bl b=>if b=true then g ρ h1 else .ok (.bl false) h1
 |_=>.bad
def Uw(f g:Ex):Ex:=fun ρ h=>(f ρ h).bind fun p h1=>match p with
 |.bl b=>if b=true then .ok (.bl true) h1 else g ρ h1
 |_=>.bad
def CP(f:Ex):Ex:=fun ρ h=>(f ρ h).bind fun p h1=>match p with
 |.bl b=>.ok (.bl (!b)) h1
 |_=>.bad
theorem rR{op}(ha:RE X T Ew a fa):RE X T Ew (.BoolOp op [a] pos) fa:=by with_unfolding_all exact(
  Hs ha)
theorem GY{rest:List Expr}(ha:RE X T Ew a fa)(hb:RE X T Ew (.BoolOp .And (b::rest) pos) fb):RE X T Ew (.BoolOp .And (a::b::rest) pos) (Fg fa fb):=by with_unfolding_all
 refine PE.imp (Hw ha hb) ?_;rintro σ H Q ⟨F,m,ρ,h,R,p⟩;refine⟨F,m,ρ,h,R,(aD.bind p).mono ?_⟩;rintro x H1 ⟨F1,m1,h1,p1,s1,R1,r1,w1⟩
 cases r1 with
 |bl k=>
  refine⟨k,rfl,?_⟩
  cases k with
  |true=>exact pV ⟨F1,m1,ρ,h1,R.of s1 R1,w1⟩
  |false=>exact sE (aD.here w1 R1 (.bl _))
 |_=>exact w1.elim
theorem kX{rest:List Expr}(ha:RE X T Ew a fa)(hb:RE X T Ew (.BoolOp .Or (b::rest) pos) fb):RE X T Ew (.BoolOp .Or (a::b::rest) pos) (Uw fa fb):=by with_unfolding_all
 refine PE.imp (Jn ha hb) ?_;rintro σ H Q ⟨F,m,ρ,h,R,p⟩;refine⟨F,m,ρ,h,R,(aD.bind p).mono ?_⟩;rintro x H1 ⟨F1,m1,h1,p1,s1,R1,r1,w1⟩
 cases r1 with
 |bl k=>
  refine⟨k,rfl,?_⟩
  cases k with
  |true=>exact pV (aD.here w1 R1 (.bl _))
  |false=>exact sE ⟨F1,m1,ρ,h1,R.of s1 R1,w1⟩
 |_=>exact w1.elim
theorem vJ(ha:RE X T Ew a fa):RE X T Ew (.UnaryOp .Not a pos) (CP fa):=by with_unfolding_all
 refine PE.imp (Ht ha) ?_;rintro σ H Q ⟨F,m,ρ,h,R,p⟩;refine⟨F,m,ρ,h,R,(aD.bind p).mono ?_⟩;rintro x H1 ⟨F1,m1,h1,p1,s1,R1,r1,w1⟩
 cases r1 with
 |bl k=>exact⟨k,rfl,aD.here w1 R1 (.bl _)⟩
 |_=>exact w1.elim
def wK(t:Tx)(f g:Ex):Ex:=fun ρ h=>(t ρ h).bind fun b h1=>if b=true then f ρ h1 else g ρ h1
theorem AL{c:Expr}{t:Tx}(hc:RT X T Ew c t)(ha:RE X T Ew a fa)(hb:RE X T Ew b fb):RE X T Ew (.IfExp c a b pos) (wK t fa fb):=by with_unfolding_all
 refine PE.imp (Bs hc ha hb) ?_;rintro σ H Q ⟨F,m,ρ,h,R,p⟩;refine⟨F,m,ρ,h,R,(aD.bind p).mono ?_⟩;rintro x H1 ⟨F1,m1,h1,p1,s1,R1,r1,w1⟩
 cases r1
 cases x with
 |true=>exact pV ⟨F1,m1,ρ,h1,R.of s1 R1,w1⟩
 |false=>exact sE ⟨F1,m1,ρ,h1,R.of s1 R1,w1⟩
end
section
variable{K:W.Frag}{T:Tab}{F H:Hp}{m:List Addr}{h:List PO}
theorem RelH.upd{i:Nat}{a:Addr}{o':PO}{ho:HO}(R:RelH K T F m h H)(em:m[i]? =some a)(hF:F a=none)(hH:∃u,H a=some u)(new:Di K T F m (upd H a ho) a o'):
  aX F m H F m (upd H a ho)∧RelH K T F m (h.set i o') (upd H a ho):=by
 have hi:i<h.length:=by
  rw[R.len];rcases Nat.lt_or_ge i m.length with q|q
  ·exact q
  ·rw[List.getElem?_eq_none q]at em;cases em
 have am:a∈m:=List.mem_of_getElem? em;refine⟨⟨cD.refl _,⟨[],by simp⟩,fun b u e n=>(ai (fun z=>n (by rw[z];exact am))).trans e,fun b u e=>?_,fun j c hj e=>(by rw[List.getElem?_eq_none hj]at e;cases e),fun c u e=>.inl e⟩,?_⟩
 ·by_cases hb:b=a
  ·subst hb;exact⟨_,aG⟩
  ·exact⟨u,by rw[ai hb];exact e⟩
 ·refine⟨fun b u e=>?_,by rw[List.length_set];exact R.len,fun j ob c e1 e2=>?_,R.nd⟩
  ·have hb:b≠a:=fun z=>by rw[z,hF]at e;cases e
   rw[ai hb];exact R.same b u e
  ·by_cases hj:i=j
   ·subst hj;rw[List.getElem?_set_self hi]at e1
    cases e1
    rw[em]at e2;cases e2;exact new
   ·rw[List.getElem?_set_ne hj]at e1
    have hc:c≠a:=fun z=>by
     subst z
     exact hj (by
      have Uu:i<m.length:=by rw[← R.len];exact hi
      have hj':j<m.length:=by
       rcases Nat.lt_or_ge j m.length with q|q
       ·exact q
       ·rw[List.getElem?_eq_none q]at e2;cases e2
      rw[List.getElem?_eq_getElem Uu,Option.some.injEq]at em;rw[List.getElem?_eq_getElem hj',Option.some.injEq]at e2;exact(List.getElem_inj R.nd).mp (em.trans e2.symm))
    have q:=R.obj j ob c e1 e2
    cases ob with
    |lst xs=>obtain⟨f,vs,z,rr⟩:=q;exact⟨f,vs,by rw[ai hc];exact z,rr⟩
    |dct xs=>obtain⟨f,vs,z,k,rr⟩:=q;exact⟨f,vs,by rw[ai hc];exact z,k,rr⟩
    |J7 q'=>exact q
noncomputable def mT(h:List PO):PV→Option (Nat×List PV)
 |.ref i=>match h[i]? with
  |some (.lst xs)=>some (i,xs)
  |_=>none
 |_=>none
theorem qy{p:PV}{x:V}{i:Nat}{ps:List PV}(R:RelH K T F m h H)(r:aF K T F m p x)(e:mT h p=some (i,ps)):∃a vs,x=.ref a∧m[i]? =some a∧F a=none∧H a=some (.lst vs)∧ak K T F m ps vs:=by
 cases r with
 |@ref j a em=>
  have e:(match h[j]? with|some (.lst xs)=>some (j,xs)|_=>none)=some (i,ps):=e
  cases q:h[j]? with
  |none=>rw[q]at e;cases e
  |some o=>
   rw[q]at e
   cases o with
   |lst xs=>simp only[Option.some.injEq,Prod.mk.injEq]at e;obtain⟨rfl,rfl⟩:=e;obtain⟨f,vs,e1,rr⟩:=R.obj j _ a q em;exact⟨a,vs,rfl,em,f,e1,rr⟩
   |dct _=>cases e
   |J7 _=>cases e
 |_=>simp[mT]at e
theorem Bi{Q:VK}{Ew:XK}{i:Nat}{a:Addr}{ps:List PV}{vs YW:List V}{p:PV}{x:V}(w:aD K T (aF K T) F m H Q Ew (.ok p (h.set i (.lst ps))))(R:RelH K T F m h H)(em:m[i]? =some a)(hF:F a=none)(hH:H a=some (.lst YW))(r:ak K T F m ps vs)
  (rp:aF K T F m p x):Q x (upd H a (.lst vs)):=by
 obtain⟨s,R'⟩:=R.upd (o':=.lst ps) (ho:=.lst vs) em hF ⟨_,hH⟩ ⟨hF,vs,aG,r⟩;exact w F m _ _ s R' rp
def gR(h:List PO):PV→Option (PV×List PO)
 |.ref i=>match h[i]? with
  |some (.lst xs)=>if ah xs=true then some (.lst xs,h.set i (.J7 (.lst xs)))else none
  |some (.dct _)=>none
  |some (.J7 p)=>some (p,h)
  |none=>none
 |p=>if p.pure=true then some (p,h)else none
theorem EQ{i:Nat}{a:Addr}{u:HO}{p:PV}(R:RelH K T F m h H)(em:m[i]? =some a)(hF:F a=none)(hH:H a=some u)(hp:p.pure=true)(r:aF K T (upd F a u) m p (.ref a)):
  aX F m H (upd F a u) m H∧RelH K T (upd F a u) m (h.set i (.J7 p)) H:=by
 have hi:i<h.length:=by
  rw[R.len];rcases Nat.lt_or_ge i m.length with q|q
  ·exact q
  ·rw[List.getElem?_eq_none q]at em;cases em
 have am:a∈m:=List.mem_of_getElem? em;have sF:cD F (upd F a u):=fm hF u;refine⟨⟨sF,⟨[],by simp⟩,fun b o e _=>e,fun b o e=>⟨o,e⟩,fun j c hj e=>(by rw[List.getElem?_eq_none hj]at e;cases e),fun c o e=>?_⟩,?_⟩
 ·by_cases hc:c=a
  ·subst hc;exact .inr (.inr am)
  ·rw[ai hc]at e;exact .inl e
 ·refine⟨fun b o e=>?_,by rw[List.length_set];exact R.len,fun j ob c e1 e2=>?_,R.nd⟩
  ·by_cases hb:b=a
   ·subst hb;rw[aG]at e;cases e;exact hH
   ·rw[ai hb]at e;exact R.same b o e
  ·by_cases hj:i=j
   ·subst hj;rw[List.getElem?_set_self hi]at e1
    cases e1
    rw[em]at e2;cases e2;exact⟨r,hp,u,aG⟩
   ·rw[List.getElem?_set_ne hj]at e1
    have hc:c≠a:=fun z=>by
     subst z
     exact hj (by
      have Uu:i<m.length:=by rw[← R.len];exact hi
      have hj':j<m.length:=by
       rcases Nat.lt_or_ge j m.length with q|q
       ·exact q
       ·rw[List.getElem?_eq_none q]at e2;cases e2
      rw[List.getElem?_eq_getElem Uu,Option.some.injEq]at em;rw[List.getElem?_eq_getElem hj',Option.some.injEq]at e2;exact(List.getElem_inj R.nd).mp (em.trans e2.symm))
    have q:=R.obj j ob c e1 e2
    cases ob with
    |lst xs=>obtain⟨f,vs,z,rr⟩:=q;exact⟨by rw[ai hc];exact f,vs,z,rr.mono sF fun _ _ h=>h⟩
    |dct xs=>obtain⟨f,vs,z,k,rr⟩:=q;exact⟨by rw[ai hc];exact f,vs,z,k,rr.mono sF fun _ _ h=>h⟩
    |J7 q'=>obtain⟨r1,r2,o,r3⟩:=q;exact⟨r1.mono sF fun _ _ h=>h,r2,o,sF _ _ r3⟩
theorem hU{p q:PV}{x:V}{h':List PO}(R:RelH K T F m h H)(r:aF K T F m p x)(e:gR h p=some (q,h')):∃F',aX F m H F' m H∧RelH K T F' m h' H∧aF K T F' m q x∧q.pure=true:=by
 by_cases hr:∃i,p=.ref i
 ·obtain⟨i,rfl⟩:=hr
  have e:(match h[i]? with
   |some (.lst xs)=>if ah xs=true then some (PV.lst xs,h.set i (.J7 (.lst xs)))else none
   |some (.dct _)=>none
   |some (.J7 p)=>some (p,h)
   |none=>none)=some (q,h'):=e
  cases r with
  |@ref _ a em=>
   cases z:h[i]? with
   |none=>rw[z]at e;cases e
   |some o=>
    rw[z]at e;have ob:=R.obj i o a z em
    cases o with
    |lst xs=>
     by_cases hp:ah xs=true
     ·simp only[hp,if_true,Option.some.injEq,Prod.mk.injEq]at e;obtain⟨rfl,rfl⟩:=e;obtain⟨f,vs,e1,rr⟩:=ob;have rl:aF K T (L2.upd F a (.lst vs)) m (.lst xs) (.ref a):=.lst aG (rr.mono (fm f _) fun _ _ h=>h);have pp:(PV.lst xs).pure=true:=by simpa[PV.pure]using hp
      obtain⟨s,R'⟩:=EQ R em f e1 pp rl;exact⟨_,s,R',rl,pp⟩
     ·simp[hp]at e
    |dct kvs=>cases e
    |J7 p=>simp only[Option.some.injEq,Prod.mk.injEq]at e;obtain⟨rfl,rfl⟩:=e;exact⟨F,.refl,R,ob.1,ob.2.1⟩
 ·have e':(if p.pure=true then some (p,h)else none)=some (q,h'):=by
   unfold gR at e
   split at e
   ·exact absurd ⟨_,rfl⟩ hr
   ·exact e
  by_cases hp:p.pure=true
  ·simp only[hp,if_true,Option.some.injEq,Prod.mk.injEq]at e';obtain⟨rfl,rfl⟩:=e';exact⟨F,.refl,R,r,hp⟩
  ·simp[hp]at e'
def N8:List PV→List PO→Option (List PV×List PO)
 |[],h=>some ([],h)
 |p::r,h=>match gR h p with
  |some (q,h1)=>match N8 r h1 with
   |some (qs,h2)=>some (q::qs,h2)
   |none=>none
  |none=>none
end
theorem uO{K:W.Frag}{T:Tab}{m:List Addr}{H:Hp}:∀{ps qs:List PV}{xs:List V}{h h':List PO}{F:Hp},RelH K T F m h H→ak K T F m ps xs→N8 ps h=some (qs,h')→
  ∃F',aX F m H F' m H∧RelH K T F' m h' H∧ak K T F' m qs xs∧ah qs=true
 |[],qs,xs,h,h',F,R,r,e=>by simp only[N8,Option.some.injEq,Prod.mk.injEq]at e;obtain⟨rfl,rfl⟩:=e;exact⟨F,.refl,R,r,by simp[ah]⟩
 |p::ps,qs,xs,h,h',F,R,r,e=>by
  cases r with
  |cons r1 r2=>
   unfold N8 at e
   cases z:gR h p with
   |none=>rw[z]at e;cases e
   |some a=>
    obtain⟨q,h1⟩:=a;rw[z]at e;dsimp only at e
    cases z2:N8 ps h1 with
    |none=>rw[z2]at e;cases e
    |some b=>obtain⟨qs2,h2⟩:=b;rw[z2]at e;simp only[Option.some.injEq,Prod.mk.injEq]at e;obtain⟨rfl,rfl⟩:=e;obtain⟨F1,s1,R1,ra,p1⟩:=hU R r1 z;obtain⟨F2,s2,R2,rb,p2⟩:=uO R1 (s1.reps r2) z2;exact⟨F2,s1.trans s2,R2,.cons (s2.rep ra) rb,by simp[ah,p1,p2]⟩
def yD(K:W.Frag)(T:Tab)(r:V→List V→Hp→VK→Prop)(g:PV→List PV→List PO→Res PV):Prop:=
 ∀F m h H x xs p ps Q Ew,RelH K T F m h H→aF K T F m p x→ak K T F m ps xs→aD K T (aF K T) F m H Q Ew (g p ps h)→r x xs H Q
def cM(recv:List PO→PV→Bool)(g:PV→List PV→List PO→Res PV)(o:Ex)(as:Ax):Ex:=fun ρ h=>(o ρ h).bind fun p h1=>if recv h1 p=true then(as ρ h1).bind fun ps h2=>g p ps h2 else .bad
noncomputable def qI(_:List PO):PV→Bool
 |.str _=>true
 |_=>false
def ei(h:List PO)(p:PV):Bool:=(Tp h p).isSome
section
variable{X:Cx}{T:Tab}{Ew:XK}{o e:Expr}{es:List Expr}{fo:Ex}{fs:Ax}{name:Str}{apos Oe:Pos}{id:String}{r:V→List V→Hp→VK→Prop}{g:PV→List PV→List PO→Res PV}
theorem uq{Ty:String}{recv:List PO→PV→Bool}(ty:∀F m h H p x,RelH X.K T F m h H→aF X.K T F m p x→recv h p=true→Xz X.K Ty x H)(pa:PlainAttrs Ty)(slot:Slot Ty name id)(Yg:typeOf (.builtin id)=pure (.type "method_descriptor"))(hm:Zy X id r)(P:yD X.K T r g)
  (ho:RE X T Ew o fo) (ha:RA X T Ew (e::es) fs)
  (Vk:attributeBase o name X.env (eval o X.env)=eval o X.env:=by rfl)
  (W9:((backTo Oe (starEach (e::es) X.env)).all (fun x=>!x.1)&&(backToKw Oe (keywordEach [] X.env)).all (fun x=>x.1.isSome)
   &&decide ((e::es).length+([]:List Keyword).length+(if([]:List Keyword).isEmpty then 0 else 1)<30))=true:=by rfl)
  (hline:(apos.endLine==Oe.line)=true:=by rfl)(hs:sE0 X e es:=by rfl) (Uc:(backTo Oe (starEach es X.env)).any (·.1)=false:=by rfl):
  RE X T Ew (.Call (.Attribute o name apos) (e::es) [] Oe) (cM recv g fo fs):=by with_unfolding_all
 refine PE.imp (Jq pa slot Yg hm ho ha Vk W9 hline hs Uc) ?_;rintro σ H Q ⟨F,m,ρ,h,R,p⟩;refine⟨F,m,ρ,h,R,(aD.bind p).mono ?_⟩;rintro x H1 ⟨F1,m1,h1,p1,s1,R1,r1,w1⟩
 by_cases hr:recv h1 p1=true
 ·simp only[hr,if_true]at w1;refine⟨ty _ _ _ _ _ _ R1 r1 hr,F1,m1,ρ,h1,R.of s1 R1,(aD.bind w1).mono ?_⟩;rintro xs H2 ⟨F2,m2,h2,p2,s2,R2,r2,w2⟩;exact P F2 m2 h2 H2 x xs p1 p2 Q Ew R2 (s2.rep r1) r2 w2
 ·simp only[hr,if_false]at w1;exact w1.elim
theorem Gn(F:Hp)(m:List Addr)(h:List PO)(H:Hp)(p:PV)(x:V)(R:RelH X.K T F m h H)(r:aF X.K T F m p x)(e:qI h p=true):Xz X.K "str" x H:=by
 cases r with
 |str y=>rfl
 |_=>simp[qI]at e
theorem rc(F:Hp)(m:List Addr)(h:List PO)(H:Hp)(p:PV)(x:V)(R:RelH X.K T F m h H)(r:aF X.K T F m p x)(e:ei h p=true):Xz X.K "list" x H:=by unfold ei at e;obtain⟨xs,ex⟩:=Option.isSome_iff_exists.mp e;obtain⟨a,vs,rfl,sq,_⟩:=eU R r ex;exact .inl ⟨rfl,vs,sq⟩
noncomputable def jZ(sep:List Nat):List (List Nat)→List Nat
 |[]=>[]
 |[x]=>x
 |x::rest=>x++sep++jZ sep rest
theorem Iu(sep:List Nat):∀xs:List (List Nat),Txt.join (S sep) (xs.map S)=S (jZ sep xs):=by
 have go:∀xs:List (List Nat),Str.join (S sep) (xs.map S)=S (jZ sep xs):=by
  intro xs
  induction xs with
  |nil=>rfl
  |cons x r ih=>
   cases r with
   |nil=>rfl
   |cons y r=>have e:jZ sep (x::y::r)=x++sep++jZ sep (y::r):=rfl;rw[e,← pK,← pK,← ih];rfl
 intro xs;show Builtin.Str.glued _ _=_;rw[StrLaws.glued_eq_join];exact go xs
noncomputable def cG:List PV→Option (List (List Nat))
 |[]=>some []
 |.str l::r=>(cG r).map (l:: ·)
 |_::_=>none
theorem gj:∀{ps:List PV}{ls:List (List Nat)},cG ps=some ls→ps=ls.map PV.str
 |[],ls,e=>by simp[cG]at e;subst e;rfl
 |p::r,ls,e=>by
  cases p with
  |str l=>simp only[cG,Option.map_eq_some_iff]at e;obtain⟨ls',e1,rfl⟩:=e;rw[gj e1];rfl
  |_=>simp[cG]at e
theorem yJ(ls:List (List Nat)):cG (ls.map PV.str)=some ls:=by
 induction ls with
 |nil=>rfl
 |cons l r ih=>simp[cG,ih]
theorem qi{K:W.Frag}{F:Hp}{m:List Addr}:∀{ls:List (List Nat)}{vs:List V},ak K T F m (ls.map PV.str) vs→vs=(ls.map S).map V.str
 |[],_,.nil=>rfl
 |l::r,_,.cons h t=>by cases h;rw[qi t];rfl
def lv(p:PV)(ps:List PV)(h:List PO):Res PV:=match p,ps with
 |.str sep,[q]=>match Tp h q with
  |some xs=>match cG xs with
   |some ls=>if(ls.map (·.length)).sum+ls.length * sep.length≤16777216 then .ok (.str (jZ sep ls)) h else .bad
   |none=>.bad
  |none=>.bad
 |_,_=>.bad
theorem yY{K:W.Frag}:yD K T (Fx K) lv:=by
 intro F m h H x xs p ps Q Ew R rp rs w;unfold lv at w
 split at w
 ·rename_i sep q
  cases rp
  obtain⟨y,rfl,ry⟩:=rs.one
  split at w
  ·rename_i zs ez
   split at w
   ·rename_i ls el
    split at w
    ·rename_i hz;obtain⟨a,vs,rfl,sq,rr⟩:=eU R ry ez;have e1:=gj el;subst e1;rw[qi rr]at sq;refine⟨_,a,ls.map S,rfl,rfl,sq,?_,by rw[Iu];exact aQ w R (.str _)⟩
     have e2:(ls.map S).map (·.length)=ls.map (·.length):=by rw[List.map_map];apply List.map_congr_left;intro l _;exact fJ l
     rw[e2,List.length_map,fJ];exact hz
    ·exact w.elim
   ·exact w.elim
  ·exact w.elim
 ·exact w.elim
def bK(p:PV)(ps:List PV)(h:List PO):Res PV:=match ps with
 |[q]=>match mT h p with
  |some (i,xs)=>if xs.length<sizeLine then .ok .non (h.set i (.lst (xs++ [q])))else .bad
  |none=>.bad
 |_=>.bad
theorem jh{K:W.Frag}:yD K T xv bK:=by
 intro F m h H x xs p ps Q Ew R rp rs w;unfold bK at w
 split at w
 ·obtain⟨y,rfl,ry⟩:=rs.one
  split at w
  ·rename_i i zs el
   split at w
   ·rename_i hz;obtain⟨a,vs,rfl,em,hF,hH,rr⟩:=qy R rp el;exact⟨a,vs,y,rfl,rfl,hH,by rw[← rr.length];exact hz,Bi w R em hF hH (rr.append (.cons ry .nil)) .non⟩
   ·exact w.elim
  ·exact w.elim
 ·exact w.elim
end
structure wQ(K:W.Frag)(T:Tab)(J:It)(xs:List PV)(F:Hp)(m:List Addr)(H:Hp):Prop where
 go:∀(i:Nat) F1 m1 h1 H1,aX F m H F1 m1 H1→RelH K T F1 m1 h1 H1→i<xs.length→J.go i H1
 WD:∀(i:Nat) F1 m1 h1 H1 v H2,aX F m H F1 m1 H1→RelH K T F1 m1 h1 H1→i<xs.length→J.WD i H1 v H2→∃F2 m2 p,aX F1 m1 H1 F2 m2 H2∧RelH K T F2 m2 h1 H2∧xs[i]? =some p∧aF K T F2 m2 p v
 stop:∀F1 m1 h1 H1,aX F m H F1 m1 H1→RelH K T F1 m1 h1 H1→J.stop xs.length H1
@[irreducible] def RI(X:Cx)(T:Tab)(Ew:XK)(tg e:Expr)(f:Ax):Prop:=PI X tg e (fun σ H R=>∃F m ρ h,fY X.K T F m ρ h σ H∧aD X.K T (fun F m xs J=>∀H,wQ X.K T J xs F m H) F m H R Ew (f ρ h))
section
variable{K:W.Frag}{T:Tab}{F H:Hp}{m:List Addr}
theorem EM(lo:Int)(n:Nat):wQ K T (Zz lo n) ((List.range n).map fun i=>PV.int (lo+(i:Nat))) F m H:=by
 refine⟨fun i F1 m1 h1 H1 s R hi=>by show i<n;simpa using hi,fun i F1 m1 h1 H1 v H2 s R hi y=>?_,fun F1 m1 h1 H1 s R=>by show n≤_;simp⟩;obtain⟨rfl,rfl⟩:=y;have Uu:i<n:=by simpa using hi
 exact⟨F1,m1,_,.refl,R,by simp[Uu],.int _⟩
theorem EL(l:List Nat):wQ K T (Its (S l)) (l.map fun c=>PV.str [c]) F m H:=by
 refine⟨fun i F1 m1 h1 H1 s R hi=>by show i<(S l).cps.size;simpa[S]using hi,fun i F1 m1 h1 H1 v H2 s R hi y=>?_,fun F1 m1 h1 H1 s R=>by show _=(S l).cps.size;simp[S]⟩;obtain⟨rfl,c,hc,rfl⟩:=y;have W_:l[i]? =some c:=by simpa[S]using hc
 exact⟨F1,m1,_,.refl,R,by simp[W_],.str [c]⟩
theorem sK{a:Addr}{xs:List PV}{vs:List V}(e:Og K F a vs)(r:ak K T F m xs vs):wQ K T (Itl K a) xs F m H:=by
 have at':∀{F1:Hp}{m1:List Addr}{h1:List PO}{H1:Hp},aX F m H F1 m1 H1→RelH K T F1 m1 h1 H1→Og K H1 a vs:=fun s R=>R.same.seq (s.fz.seq e);refine⟨fun i F1 m1 h1 H1 s R hi=>?_,fun i F1 m1 h1 H1 v H2 s R hi y=>?_,fun F1 m1 h1 H1 s R=>⟨vs,at' s R,by rw[r.length];exact ab2 _⟩⟩
 ·rw[r.length]at hi;exact⟨vs,vs[i],at' s R,List.getElem?_eq_getElem hi⟩
 ·obtain⟨rfl,y⟩:=y;obtain⟨v',h1,h2⟩:=r.get (List.getElem?_eq_getElem hi);have:=y vs (at' s R);rw[h1]at this;cases this;exact⟨F1,m1,_,.refl,R,List.getElem?_eq_getElem hi,s.rep h2⟩
theorem EK{a:Addr}{xs:List PV}{vs:List V}(e:O5 K F a vs)(r:ak K T F m xs vs):wQ K T (Itt K a) xs F m H:=by
 have at':∀{F1:Hp}{m1:List Addr}{h1:List PO}{H1:Hp},aX F m H F1 m1 H1→RelH K T F1 m1 h1 H1→O5 K H1 a vs:=fun s R=>R.same.Rt (s.fz.Rt e);refine⟨fun i F1 m1 h1 H1 s R hi=>?_,fun i F1 m1 h1 H1 v H2 s R hi y=>?_,fun F1 m1 h1 H1 s R=>⟨vs,at' s R,by rw[r.length];exact ab2 _⟩⟩
 ·rw[r.length]at hi;exact⟨vs,vs[i],at' s R,List.getElem?_eq_getElem hi⟩
 ·obtain⟨rfl,y⟩:=y;obtain⟨v',h1,h2⟩:=r.get (List.getElem?_eq_getElem hi);have:=y vs (at' s R);rw[h1]at this;cases this;exact⟨F1,m1,_,.refl,R,List.getElem?_eq_getElem hi,s.rep h2⟩
end
section
variable{X:Cx}{T:Tab}{Ew:XK}{tg a b:Expr}{fa fb:Ex}{pos p0:Pos}
def dI(f:Ax):Ax:=fun ρ h=>(f ρ h).bind fun ps h1=>match ps with
 |[.int j]=>if RM 4611686018427387904 j=true then .ok ((List.range j.toNat).map fun i=>PV.int (0+(i:Nat))) h1 else .bad
 |_=>.bad
theorem mq{f:Ax}(hg:Gl X "range")(hm:X.mg "range"=none)(ha:RA X T Ew [a] f)(hs:starEach [a] X.env= [(false,eval a X.env)]:=by rfl):RI X T Ew tg (.Call (.Name "range" p0) [a] [] pos) (dI f):=by with_unfolding_all
 intro pins s σ H R I ⟨F,m,ρ,h,RR,p⟩;refine ze hg hm ha hs pins s σ H R I ⟨F,m,ρ,h,RR,(aD.bind p).mono ?_⟩;rintro xs H1 ⟨F1,m1,h1,ps,s1,R1,r1,w1⟩
 split at w1
 ·rename_i j;obtain⟨x,rfl,rx⟩:=r1.one
  cases rx
  split at w1
  ·rename_i hz;have hz':=bR.mp hz;exact⟨j,rfl,by omega,by omega,aD.here w1 R1 fun H=>EM 0 _⟩
  ·exact w1.elim
 ·exact w1.elim
def jb(p:PV)(h:List PO):Res (List PV):=match p with
 |.str l=>.ok (l.map fun c=>PV.str [c]) h
 |.tup xs=>.ok xs h
 |.lst xs=>.ok xs h
 |.Qs xs=>.ok xs h
 |p=>match gR h p with
  |some (.lst xs,h2)=>.ok xs h2
  |_=>.bad
def ik(f:Ex):Ax:=fun ρ h=>(f ρ h).bind jb
theorem AG(ha:RE X T Ew a fa):RI X T Ew tg a (ik fa):=by with_unfolding_all
 intro pins s σ H R I ⟨F,m,ρ,h,RR,p⟩;unfold ik at p
 have lst:(∀p1 h1,fa ρ h=.ok p1 h1→(∀l,p1≠.str l)∧(∀l,p1≠.tup l))→wpAny (model X.prog X.w) X.A (eval a X.env) (fun v s1=>wpAny (model X.prog X.w) X.A (pyIter v) (PIE X pins σ tg R) X.xe s1) X.xe s:=fun hsh=>by
  refine xF ha pins s σ H R I ⟨F,m,ρ,h,RR,?_⟩
  cases q:fa ρ h with
  |bad=>rw[q]at p;exact p
  |exc e h'=>rw[q]at p;exact p
  |ok p1 h1=>
   obtain⟨n1,n2⟩:=hsh p1 h1 q;rw[q]at p;intro F1 m1 H1 x s1 R1 r1;have w1:=aD.step s1 (show aD X.K T _ F m H R Ew (jb p1 h1)from p);unfold jb at w1
   split at w1
   ·exact absurd rfl (n1 _)
   ·exact absurd rfl (n2 _)
   ·cases r1 with
    |lst ef rr=>exact⟨_,rfl,⟨_,Og.of (R1.same _ _ ef)⟩,aD.here w1 R1 fun H=>sK (Og.of ef) rr⟩
   ·cases r1 with
    |Qs ef rr=>exact⟨_,rfl,⟨_,R1.same.seq ef⟩,aD.here w1 R1 fun H=>sK ef rr⟩
   ·split at w1
    ·rename_i xs h2 ef;obtain⟨F2,s2,R2,r2,_⟩:=hU R1 r1 ef
     cases r2 with
     |lst ef rr=>exact⟨_,rfl,⟨_,Og.of (R2.same _ _ ef)⟩,w1 F2 m1 H1 _ s2 R2 fun H=>sK (Og.of ef) rr⟩
    ·exact w1.elim
 cases q:fa ρ h with
 |bad=>rw[q]at p;exact p.elim
 |exc e h'=>exact lst fun p1 h1 z=>by rw[q]at z;cases z
 |ok p1 h1=>
  by_cases Uv:∃l,p1=.str l
  ·obtain⟨l,rfl⟩:=Uv;refine Hk ha pins s σ H R I ⟨F,m,ρ,h,RR,?_⟩;rw[q]at p ⊢;intro F1 m1 H1 x s1 R1 r1;have w1:=aD.step s1 (show aD X.K T _ F m H R Ew (jb (.str l) h1)from p)
   cases r1
   exact⟨_,rfl,aD.here w1 R1 fun H=>EL l⟩
  ·by_cases Ws:∃l,p1=.tup l
   ·obtain⟨l,rfl⟩:=Ws;refine Hj ha pins s σ H R I ⟨F,m,ρ,h,RR,?_⟩;rw[q]at p ⊢;intro F1 m1 H1 x s1 R1 r1;have w1:=aD.step s1 (show aD X.K T _ F m H R Ew (jb (.tup l) h1)from p)
    cases r1 with
    |tup ef rr=>exact⟨_,rfl,⟨_,R1.same.Rt ef⟩,aD.here w1 R1 fun H=>EK ef rr⟩
   ·exact lst fun p2 h2 z=>by rw[q]at z;cases z;exact⟨fun l z=>Uv ⟨l,z⟩,fun l z=>Ws ⟨l,z⟩⟩
noncomputable def bX(g8:List Nat)(ρ:Ev):Ev:=g8.map fun i=>(ρ[i]?).getD none
def bv(tt:Tx)(te:Ex)(cp:Ev):List PV→List PO→Res (List PV)
 |[],h=>.ok [] h
 |p::r,h=>(tt (some p::cp) h).bind fun b h1=>if b=true then(te (some p::cp) h1).bind fun v h2=>(bv tt te cp r h2).bind fun vs h3=>.ok (v::vs) h3 else bv tt te cp r h1
def eD(g8:List Nat)(it:Ax)(tt:Tx)(te:Ex):Ax:=fun ρ h=>(it ρ h).bind fun xs h1=>if xs.length<sizeLine then bv tt te (bX g8 ρ) xs h1 else .bad
@[irreducible] def Xx(X:Cx)(T:Tab)(Ew:XK)(ifs:List Expr)(f:Tx):Prop:=YK X ifs (wT X T Ew f)
noncomputable def cJ:Tx:=fun _ h=>.ok true h
theorem rP:Xx X T Ew [] cJ:=by with_unfolding_all exact(
  (by rintro pins s σ H Q I ⟨F,m,ρ,h,R,p⟩;exact Ho pins s σ H Q I (aD.here p R.toRelH rfl)))
theorem GS{c:Expr}{f:Tx}(h:RT X T Ew c f):Xx X T Ew [c] f:=by with_unfolding_all exact(
  Hn h)
theorem kB.cap{K:W.Frag}{F:Hp}{m:List Addr}{ρ:Ev}{σ:St}(r:kB K T F m ρ σ)(g8:List Nat){p:PV}{v:V}(rp:aF K T F m p v):kB K T F m (some p::bX g8 ρ) (some v::gw g8 σ):=by
 refine⟨by simp[bX,gw],fun i q e=>?_⟩
 cases i with
 |zero=>simp at e;subst e;exact⟨v,rfl,rp⟩
 |succ j=>
  simp only[List.getElem?_cons_succ,bX,gw,List.getElem?_map]at e ⊢
  cases z:g8[j]? with
  |none=>rw[z]at e;simp at e
  |some k=>
   rw[z]at e;simp only[Option.map_some,Option.some.injEq]at e ⊢
   have e':ρ[k]? =some (some q):=by
    cases y:ρ[k]? with
    |none=>rw[y]at e;cases e
    |some o=>rw[y]at e;simpa using e
   obtain⟨u,h1,h2⟩:=r.2 k q e';exact⟨u,by rw[h1];rfl,h2⟩
theorem pE{g8:List Nat}{it:Ax}{tt:Tx}{te:Ex}{σ:St}{H:Hp}{Q:VK}{g:List PV→List PO→Res PV}(hg:∀F m h H ps vs,RelH X.K T F m h H→ak X.K T F m ps vs→aD X.K T (aF X.K T) F m H Q Ew (g ps h)→∀D,H D=none→Q (.ref D) (upd H D (.lst vs)))
  (w:wE X T Ew (cN g (eD g8 it tt te)) σ H Q):Am g8 (fun σ H R=>∃F m ρ h,fY X.K T F m ρ h σ H∧aD X.K T (fun F m xs J=>∀H,wQ X.K T J xs F m H) F m H R Ew (it ρ h)) (wT X T Ew tt) (wE X T Ew te) σ H Q:=by
 obtain⟨F,m,ρ,h,R,p⟩:=w
 have p0:aD X.K T (aF X.K T) F m H Q Ew ((it ρ h).bind fun xs h1=>(if xs.length<sizeLine then bv tt te (bX g8 ρ) xs h1 else .bad).bind g):=by
  have:(eD g8 it tt te ρ h).bind g=(it ρ h).bind fun xs h1=>(if xs.length<sizeLine then bv tt te (bX g8 ρ) xs h1 else .bad).bind g:=by
   unfold eD
   cases it ρ h<;>rfl
  rw[← this];exact p
 refine⟨F,m,ρ,h,R,(aD.bind p0).mono ?_⟩;rintro J H1 ⟨F1,m1,h1,xs,s1,R1,G,w1⟩
 by_cases hz:xs.length<sizeLine
 ·rw[if_pos hz]at w1
  refine⟨fun i n acc H2=>n=xs.length - i∧i≤xs.length∧acc.length≤i∧∃F2 m2 h2 as,aX F1 m1 H1 F2 m2 H2∧RelH X.K T F2 m2 h2 H2∧ak X.K T F2 m2 as acc∧
   aD X.K T (aF X.K T) F2 m2 H2 Q Ew (((bv tt te (bX g8 ρ) (xs.drop i) h2).bind fun vs h3=>g (as++vs) h3)),⟨_,rfl,Nat.zero_le _,ab2 _,F1,m1,h1,[],.refl,R1,.nil,by simpa using w1⟩,?_⟩
  rintro i n acc H2 ⟨rfl,hi,hac,F2,m2,h2,as,s2,R2,ra,w2⟩
  rcases Nat.lt_or_ge i xs.length with SM|Yn
  ·right
   refine⟨(G H1).go i F2 m2 h2 H2 s2 R2 SM,by omega,fun v H3 y=>?_⟩;obtain⟨F3,m3,p,s3,R3,ep,rp⟩:=(G H1).WD i F2 m2 h2 H2 v H3 s2 R2 SM y
   have ed:xs.drop i=p::xs.drop (i+1):=by rw[List.drop_eq_getElem_cons SM];rw[List.getElem?_eq_getElem SM,Option.some.injEq]at ep;rw[ep]
   rw[ed]at w2;have w3:=aD.step s3 w2;have eE:kB X.K T F3 m3 (some p::bX g8 ρ) (some v::gw g8 σ):=(s3.env (s2.env (s1.env R.env))).cap g8 rp
   have e0:((bv tt te (bX g8 ρ) (p::xs.drop (i+1)) h2).bind fun vs h3=>g (as++vs) h3)=(tt (some p::bX g8 ρ) h2).bind fun b h1=>
     if b=true then(te (some p::bX g8 ρ) h1).bind fun v h2=>(bv tt te (bX g8 ρ) (xs.drop (i+1)) h2).bind fun vs h3=>g (as++v::vs) h3 else(bv tt te (bX g8 ρ) (xs.drop (i+1)) h1).bind fun vs h3=>g (as++vs) h3:=by
    rw[bv]
    cases tt (some p::bX g8 ρ) h2 with
    |bad=>rfl
    |exc e h=>rfl
    |ok b h1=>
     cases b with
     |false=>rfl
     |true=>
      simp only[Res.M4,if_true]
      cases te (some p::bX g8 ρ) h1 with
      |bad=>rfl
      |exc e h=>rfl
      |ok v h4=>
       simp only[Res.M4]
       cases bv tt te (bX g8 ρ) (xs.drop (i+1)) h4<;>rfl
   rw[e0]at w3;refine⟨F3,m3,_,h2,⟨R3,eE⟩,(aD.bind w3).mono ?_⟩;rintro b H4 ⟨F4,m4,h4,b',s4,R4,eb,w4⟩
   cases eb
   have XJ:aX F1 m1 H1 F4 m4 H4:=(s2.trans s3).trans s4
   cases b with
   |false=>refine sE ⟨xs.length - (i+1),by omega,rfl,by omega,by omega,F4,m4,h4,as,XJ,R4,s4.reps (s3.reps ra),?_⟩;simpa using w4
   |true=>
    simp only[if_true]at w4;refine pV ⟨F4,m4,_,h4,⟨R4,s4.env eE⟩,(aD.bind w4).mono ?_⟩;rintro y H5 ⟨F5,m5,h5,q,s5,R5,rq,w5⟩;refine⟨xs.length - (i+1),by omega,rfl,by omega,by rw[List.length_append];simp;omega,F5,m5,h5,as++ [q],XJ.trans s5,R5,(s5.reps (s4.reps (s3.reps ra))).append (.cons rq .nil),?_⟩;have:(fun vs h3=>g (as++ [q]++vs) h3)=fun vs h3=>g (as++q::vs) h3:=by funext vs h3;simp
    rw[this];exact w5
  ·left
   have e:i=xs.length:=by omega
   subst e;refine⟨(G H1).stop F2 m2 h2 H2 s2 R2,fun D hD=>?_⟩;rw[List.drop_length]at w2;have w3:aD X.K T (aF X.K T) F2 m2 H2 Q Ew (g as h2):=by simpa[bv]using w2
   exact hg F2 m2 h2 H2 as acc R2 ra w3 D hD
 ·rw[if_neg hz]at w1;exact w1.elim
noncomputable def SJ(ps:List PV)(h:List PO):Res PV:=.ok (.lst ps) h
noncomputable def Er(ps:List PV)(h:List PO):Res PV:=.ok (.ref h.length) (h++ [.lst ps])
theorem iC{elt iter:Expr}{x:Str}{px:Pos}{ifs:List Expr}{scope:Scope}{it:Ax}{tt:Tx}{te:Ex}{M:List Str}(g8:List Nat)(O7:X.calm=true)(S:eA X.N X.env.scope scope g8 x M)
  (hi:RI X T Ew (.Name x px) iter it) (ht:∀cl C ex s H,Xx (cZ X M scope cl C ex s H) T Ew ifs tt) (he:∀cl C ex s H,RE (cZ X M scope cl C ex s H) T Ew elt te)
  (hs:∀y,foldedSetIterable iter X.env y=pure y:=by intro _;rfl):RE X T Ew (.ListComp elt [⟨.Name x px,iter,ifs,0⟩] scope pos) (cN SJ (eD g8 it tt te)):=by with_unfolding_all exact(
 PE.imp (xG (tt:=wT X T Ew tt) (te:=wE X T Ew te) g8 O7 S hi ht he hs) fun σ H Q w=>pE (fun F m h H ps vs R r w D hD=>fC w R r D hD) w)
end
inductive SR where
 |nx (ρ:Ev) (h:List PO)|rt (v:PV) (h:List PO)|bk (ρ:Ev) (h:List PO)|ct (ρ:Ev) (h:List PO)|exc (e:PV) (h:List PO)|bad
abbrev Sx:=Ev→List PO→SR
def de(K:W.Frag)(T:Tab)(F:Hp)(m:List Addr)(H:Hp)(D:pO)(Ew:XK):SR→Prop
 |.nx ρ h=>∀F' m' H' σ',aX F m H F' m' H'→fY K T F' m' ρ h σ' H'→D.nx σ' H'
 |.bk ρ h=>∀F' m' H' σ',aX F m H F' m' H'→fY K T F' m' ρ h σ' H'→D.bk σ' H'
 |.ct ρ h=>∀F' m' H' σ',aX F m H F' m' H'→fY K T F' m' ρ h σ' H'→D.ct σ' H'
 |.rt v h=>∀F' m' H' x,aX F m H F' m' H'→RelH K T F' m' h H'→aF K T F' m' v x→D.rt x H'
 |.exc v h=>∀F' m' H' cls dx,aX F m H F' m' H'→RelH K T F' m' h H'→kA K T F' m' v cls dx→Ew cls dx H'
 |.bad=>False
theorem de.step{K:W.Frag}{T:Tab}{F F1 H H1:Hp}{m m1:List Addr}{D:pO}{Ew:XK}{r:SR}(s:aX F m H F1 m1 H1)(p:de K T F m H D Ew r):de K T F1 m1 H1 D Ew r:=by
 cases r with
 |nx ρ h=>exact fun F' m' H' x t=>p F' m' H' x (s.trans t)
 |bk ρ h=>exact fun F' m' H' x t=>p F' m' H' x (s.trans t)
 |ct ρ h=>exact fun F' m' H' x t=>p F' m' H' x (s.trans t)
 |rt v h=>exact fun F' m' H' x t=>p F' m' H' x (s.trans t)
 |exc v h=>exact fun F' m' H' c d t=>p F' m' H' c d (s.trans t)
 |bad=>exact p
section
variable(X:Cx)(T:Tab)(Ew:XK)
noncomputable def wS(f:Sx):TS:=fun D σ H=>∃F m ρ h,fY X.K T F m ρ h σ H∧de X.K T F m H D Ew (f ρ h)
@[irreducible] def RS(st:Stmt)(f:Sx):Prop:=PS X st (wS X T Ew f)
@[irreducible] def Tr(st:List Stmt)(f:Sx):Prop:=Sw X st (wS X T Ew f)
end
noncomputable def bG:Sx:=fun ρ h=>.nx ρ h
noncomputable def aq(f g:Sx):Sx:=fun ρ h=>match f ρ h with
 |.nx ρ1 h1=>g ρ1 h1
 |.rt v h1=>.rt v h1
 |.bk ρ1 h1=>.bk ρ1 h1
 |.ct ρ1 h1=>.ct ρ1 h1
 |.exc v h1=>.exc v h1
 |.bad=>.bad
noncomputable def dv(f:Res PV)(k:PV→List PO→SR):SR:=match f with
 |.ok v h=>k v h
 |.exc e h=>.exc e h
 |.bad=>.bad
noncomputable def vf(f:Res Bool)(k:Bool→List PO→SR):SR:=match f with
 |.ok v h=>k v h
 |.exc e h=>.exc e h
 |.bad=>.bad
noncomputable def Cf(f:Res (List PV))(k:List PV→List PO→SR):SR:=match f with
 |.ok v h=>k v h
 |.exc e h=>.exc e h
 |.bad=>.bad
@[simp] theorem Ka(v:PV)(h:List PO)(k:PV→List PO→SR):dv (.ok v h) k=k v h:=rfl
@[simp] theorem CU(v:Bool)(h:List PO)(k:Bool→List PO→SR):vf (.ok v h) k=k v h:=rfl
noncomputable def bf(f:Ex):Sx:=fun ρ h=>dv (f ρ h) fun v h1=>.rt v h1
noncomputable def Az:Sx:=fun _ h=>.rt .non h
def fy(f:Ex):Sx:=fun ρ h=>dv (f ρ h) fun _ h1=>.nx ρ h1
def NP(t:Tx)(f g:Sx):Sx:=fun ρ h=>vf (t ρ h) fun b h1=>if b=true then f ρ h1 else g ρ h1
def aI(i:Nat)(f:Ex):Sx:=fun ρ h=>dv (f ρ h) fun v h1=>.nx (ρ.set i (some v)) h1
section
variable{X:Cx}{T:Tab}{Ew:XK}{a b c:Expr}{fa fb:Ex}{pos:Pos}{st:Stmt}{rest:List Stmt}{f g:Sx}
theorem fL{K:W.Frag}{F H:Hp}{m:List Addr}{D:pO}{r:Res PV}{k:PV→List PO→SR}(p:de K T F m H D Ew (dv r k)):aD K T (aF K T) F m H (fun x H1=>∃F1 m1 h1 a,aX F m H F1 m1 H1∧RelH K T F1 m1 h1 H1∧aF K T F1 m1 a x∧de K T F1 m1 H1 D Ew (k a h1)) Ew r:=by
 cases r with
 |ok a h=>exact fun F' m' H' x s r q=>⟨F',m',h,a,s,r,q,de.step s p⟩
 |exc e h=>exact p
 |bad=>exact p
theorem Bj{K:W.Frag}{F H:Hp}{m:List Addr}{D:pO}{r:Res Bool}{k:Bool→List PO→SR}(p:de K T F m H D Ew (vf r k)):aD K T RB F m H (fun x H1=>∃F1 m1 h1,aX F m H F1 m1 H1∧RelH K T F1 m1 h1 H1∧de K T F1 m1 H1 D Ew (k x h1)) Ew r:=by
 cases r with
 |ok a h=>exact fun F' m' H' x s r q=>by cases q;exact⟨F',m',h,s,r,de.step s p⟩
 |exc e h=>exact p
 |bad=>exact p
theorem Hi{K:W.Frag}{F H:Hp}{m:List Addr}{D:pO}{β:Type}{RR:Hp→List Addr→List PV→β→Prop}{r:Res (List PV)}{k:List PV→List PO→SR}(p:de K T F m H D Ew (Cf r k)):aD K T RR F m H (fun x H1=>∃F1 m1 h1 a,aX F m H F1 m1 H1∧RelH K T F1 m1 h1 H1∧RR F1 m1 a x∧de K T F1 m1 H1 D Ew (k a h1)) Ew r:=by
 cases r with
 |ok a h=>exact fun F' m' H' x s r q=>⟨F',m',h,a,s,r,q,de.step s p⟩
 |exc e h=>exact p
 |bad=>exact p
theorem gB:Tr X T Ew [] bG:=by with_unfolding_all exact(
  Sw.imp DR (by rintro D σ H ⟨F,m,ρ,h,R,p⟩;exact p F m H σ .refl R))
theorem bV(h:RS X T Ew st f):Tr X T Ew [st] f:=by with_unfolding_all exact(
  xx h)
theorem aS(h1:RS X T Ew st f)(h2:Tr X T Ew rest g):Tr X T Ew (st::rest) (aq f g):=by with_unfolding_all
 refine Sw.imp (AW h1 h2) ?_;rintro D σ H ⟨F,m,ρ,h,R,p⟩;refine⟨F,m,ρ,h,R,?_⟩
 unfold aq at p
 cases q:f ρ h with
 |nx ρ1 h1=>rw[q]at p;exact fun F' m' H' σ' s R'=>⟨F',m',ρ1,h1,R',de.step s p⟩
 |rt v h1=>rw[q]at p;exact p
 |bk v h1=>rw[q]at p;exact p
 |ct v h1=>rw[q]at p;exact p
 |exc v h1=>rw[q]at p;exact p
 |bad=>rw[q]at p;exact p
theorem GP(ha:RE X T Ew a fa):RS X T Ew (.Return (some a) pos) (bf fa):=by with_unfolding_all exact(
 PS.imp (Hg ha) (by rintro D σ H ⟨F,m,ρ,h,R,p⟩;exact ⟨F,m,ρ,h,R,(fL p).mono (by rintro x H1 ⟨F1,m1,h1,v,s1,R1,r1,w1⟩;exact w1 F1 m1 H1 x .refl R1 r1)⟩))
theorem DC:RS X T Ew (.Return none pos) Az:=by with_unfolding_all exact(
  PS.imp DT (by rintro D σ H ⟨F,m,ρ,h,R,p⟩;exact p F m H .non .refl R.toRelH .non))
theorem jC(ha:RE X T Ew a fa)(hs:swapsWith a none pos.line X.env=pure false:=by rfl):RS X T Ew (.Expr a pos) (fy fa):=by with_unfolding_all exact(
 PS.imp (DU ha hs) (by rintro D σ H ⟨F,m,ρ,h,R,p⟩;exact ⟨F,m,ρ,h,R,(fL p).mono (by rintro x H1 ⟨F1,m1,h1,v,s1,R1,r1,w1⟩;exact w1 F1 m1 H1 σ .refl (R.of s1 R1))⟩))
theorem mS{t:Tx}{sa sb:List Stmt}(hc:RT X T Ew c t)(ha:Tr X T Ew sa f)(hb:Tr X T Ew sb g):RS X T Ew (.If c sa sb pos) (NP t f g):=by with_unfolding_all
 refine PS.imp (Jl hc ha hb) ?_;rintro D σ H ⟨F,m,ρ,h,R,p⟩;refine⟨F,m,ρ,h,R,(Bj p).mono ?_⟩;rintro x H1 ⟨F1,m1,h1,s1,R1,w1⟩
 cases x with
 |true=>exact pV ⟨F1,m1,ρ,h1,R.of s1 R1,w1⟩
 |false=>exact sE ⟨F1,m1,ρ,h1,R.of s1 R1,w1⟩
theorem kB.set{K:W.Frag}{F:Hp}{m:List Addr}{ρ:Ev}{σ:St}(r:kB K T F m ρ σ)(i:Nat){p:PV}{v:V}(rp:aF K T F m p v):kB K T F m (ρ.set i (some p)) (σ.set i (some v)):=by
 refine⟨by simp[r.1],fun j q e=>?_⟩
 by_cases hj:i=j
 ·subst hj
  have hi:i<ρ.length:=by
   rcases Nat.lt_or_ge i ρ.length with z|z
   ·exact z
   ·rw[List.getElem?_eq_none (by simpa using z)]at e;cases e
  rw[List.getElem?_set_self hi]at e
  cases e
  exact⟨v,List.getElem?_set_self (by rw[← r.1];exact hi),rp⟩
 ·rw[List.getElem?_set_ne hj]at e ⊢;exact r.2 j q e
theorem GO{i:Nat}{x:Str}{pos':Pos}(hN:X.N.Nodup)(hi:X.N[i]? =some x)(hx:Loc X.env.scope x)(ha:RE X T Ew a fa)(hs:swapsWith a (some (.Name x pos')) pos.line X.env=pure false:=by rfl)(hf:X.fn x=true∨X.env.scope.names.lookup x=some .local:=by first|exact .inl rfl|exact .inr rfl|assumption):
  RS X T Ew (.Assign [.Name x pos'] a pos) (aI i fa):=by with_unfolding_all exact(
 PS.imp (Hf hN hi hx ha hs hf) (by rintro D σ H ⟨F,m,ρ,h,R,p⟩;exact ⟨F,m,ρ,h,R,(fL p).mono (by rintro v H1 ⟨F1,m1,h1,q,s1,R1,r1,w1⟩;exact w1 F1 m1 H1 _ .refl ⟨R1,(s1.env R.env).set i r1⟩)⟩))
abbrev Gx:=PV→Ev→Option Ev
@[irreducible] def RG(X:Cx)(T:Tab)(tg:Expr)(g:Gx):Prop:=PG X tg (fun v σ H Q=>∃F m ρ h p ρ',fY X.K T F m ρ h σ H∧aF X.K T F m p v∧g p ρ=some ρ'∧∀ σ',kB X.K T F m ρ' σ'→Q σ' H)
noncomputable def G5(i:Nat):Gx:=fun p ρ=>some (ρ.set i (some p))
theorem gD{i:Nat}{x:Str}{pos:Pos}(hN:X.N.Nodup)(hi:X.N[i]? =some x)(hx:Loc X.env.scope x)(hf:X.fn x=true∨X.env.scope.names.lookup x=some .local:=by first|exact .inl rfl|exact .inr rfl|assumption):RG X T (.Name x pos) (G5 i):=by with_unfolding_all
 intro pins s σ H v u Q I r ⟨F,m,ρ,h,p,ρ',R,rp,e,q⟩
 cases e
 exact nJ hN hi hx hf pins s σ H v u Q I r (q _ (R.env.set i rp))
noncomputable def aJ(g:Gx)(body:Sx):List PV→Sx
 |[],ρ,h=>.nx ρ h
 |p::r,ρ,h=>match g p ρ with
  |some ρ1=>match body ρ1 h with
   |.nx ρ2 h2=>aJ g body r ρ2 h2
   |.ct ρ2 h2=>aJ g body r ρ2 h2
   |.bk ρ2 h2=>.nx ρ2 h2
   |.rt v h2=>.rt v h2
   |.exc v h2=>.exc v h2
   |.bad=>.bad
  |none=>.bad
def fS(it:Ax)(g:Gx)(body:Sx):Sx:=fun ρ h=>Cf (it ρ h) fun xs h1=>aJ g body xs ρ h1
theorem oB{tg iter:Expr}{it:Ax}{g:Gx}{body:List Stmt}(hp:PassesOwn (model X.prog X.w) X.A X.env X.xe)(hc:X.calm=true)(hi:RI X T Ew tg iter it)(hg:RG X T tg g)(hb:Tr X T Ew body f)
  (hs:∀x,foldedSetIterable iter X.env x=pure x:=by intro _;rfl):RS X T Ew (.For tg iter body [] pos) (fS it g f):=by with_unfolding_all
 refine PS.imp (Hh hp hc hi hg hb hs) ?_;rintro D σ H ⟨F,m,ρ,h,R,p⟩;refine⟨F,m,ρ,h,R,(Hi p).mono ?_⟩;rintro J H1 ⟨F1,m1,h1,xs,s1,R1,G,w1⟩
 refine⟨fun i n σ2 H2=>n=xs.length - i∧i≤xs.length∧∃F2 m2 ρ2 h2,aX F1 m1 H1 F2 m2 H2∧fY X.K T F2 m2 ρ2 h2 σ2 H2∧de X.K T F2 m2 H2 D Ew (aJ g f (xs.drop i) ρ2 h2),⟨_,rfl,Nat.zero_le _,F1,m1,ρ,h1,.refl,R.of s1 R1,w1⟩,?_⟩
 rintro i n σ2 H2 ⟨rfl,Uu,F2,m2,ρ2,h2,s2,R2,w2⟩
 rcases Nat.lt_or_ge i xs.length with SM|Yn
 ·right
  refine⟨(G H1).go i F2 m2 h2 H2 s2 R2.toRelH SM,fun σ' H'=>∃m',m'<xs.length - i∧m'=xs.length - (i+1)∧i+1≤xs.length∧∃F2 m2 ρ2 h2,aX F1 m1 H1 F2 m2 H'∧fY X.K T F2 m2 ρ2 h2 σ' H'∧de X.K T F2 m2 H' D Ew (aJ g f (xs.drop (i+1)) ρ2 h2),fun σ' H' q=>q,fun v H3 y=>?_⟩;obtain⟨F3,m3,p,s3,R3,ep,rp⟩:=(G H1).WD i F2 m2 h2 H2 v H3 s2 R2.toRelH SM y
  have ed:xs.drop i=p::xs.drop (i+1):=by rw[List.drop_eq_getElem_cons SM];rw[List.getElem?_eq_getElem SM,Option.some.injEq]at ep;rw[ep]
  rw[ed]at w2;have w3:=de.step s3 w2;unfold aJ at w3
  cases q:g p ρ2 with
  |none=>rw[q]at w3;exact w3.elim
  |some ρ3=>
   rw[q]at w3;dsimp only at w3;refine⟨F3,m3,ρ2,h2,p,ρ3,⟨R3,s3.env R2.env⟩,rp,q,fun σ3 r3=>⟨F3,m3,ρ3,h2,⟨R3,r3⟩,?_⟩⟩
   cases z:f ρ3 h2 with
   |nx ρ4 h4=>rw[z]at w3;exact fun F' m' H' σ' s' R'=>⟨xs.length - (i+1),by omega,rfl,by omega,F',m',ρ4,h4,(s2.trans s3).trans s',R',de.step s' w3⟩
   |ct ρ4 h4=>rw[z]at w3;exact fun F' m' H' σ' s' R'=>⟨xs.length - (i+1),by omega,rfl,by omega,F',m',ρ4,h4,(s2.trans s3).trans s',R',de.step s' w3⟩
   |bk ρ4 h4=>rw[z]at w3;exact w3
   |rt v4 h4=>rw[z]at w3;exact w3
   |exc v4 h4=>rw[z]at w3;exact w3
   |bad=>rw[z]at w3;exact w3
 ·left
  have e:i=xs.length:=by omega
  subst e;rw[List.drop_length]at w2;exact⟨(G H1).stop F2 m2 h2 H2 s2 R2.toRelH,w2 F2 m2 H2 σ2 .refl R2⟩
def whl(t:Tx)(body:Sx):Nat→Sx
 |0,_,_=>.bad
 |n+1,ρ,h=>vf (t ρ h) fun b h1=>if b=true then match body ρ h1 with
   |.nx ρ2 h2=>whl t body n ρ2 h2
   |.ct ρ2 h2=>whl t body n ρ2 h2
   |.bk ρ2 h2=>.nx ρ2 h2
   |.rt v h2=>.rt v h2
   |.exc v h2=>.exc v h2
   |.bad=>.bad
  else .nx ρ h1
theorem vF(n:Nat){t:Tx}{body:List Stmt}(hp:PassesOwn (model X.prog X.w) X.A X.env X.xe)(hc:RT X T Ew c t)(hb:Tr X T Ew body f):RS X T Ew (.While c body [] pos) (whl t f n):=by with_unfolding_all
 refine PS.imp (AX hp hc hb) ?_;rintro D σ H ⟨F,m,ρ,h,R,p⟩;refine⟨fun n σ H=>∃F m ρ h,fY X.K T F m ρ h σ H∧de X.K T F m H D Ew (whl t f n ρ h),⟨n,F,m,ρ,h,R,p⟩,?_⟩
 rintro n σ1 H1 ⟨F1,m1,ρ1,h1,R1,p1⟩
 cases n with
 |zero=>exact p1.elim
 |succ n=>
  refine⟨F1,m1,ρ1,h1,R1,(Bj p1).mono ?_⟩;rintro b H2 ⟨F2,m2,h2,s2,R2,w2⟩
  cases b with
  |false=>exact sE (w2 F2 m2 H2 σ1 .refl (R1.of s2 R2))
  |true=>
   refine pV ⟨fun σ' H'=>∃m',m'<n+1∧∃F m ρ h,fY X.K T F m ρ h σ' H'∧de X.K T F m H' D Ew (whl t f m' ρ h),fun σ' H' q=>q,F2,m2,ρ1,h2,R1.of s2 R2,?_⟩;simp only[if_true]at w2
   cases z:f ρ1 h2 with
   |nx ρ4 h4=>rw[z]at w2;exact fun F' m' H' σ' s' R'=>⟨n,by omega,F',m',ρ4,h4,R',de.step s' w2⟩
   |ct ρ4 h4=>rw[z]at w2;exact fun F' m' H' σ' s' R'=>⟨n,by omega,F',m',ρ4,h4,R',de.step s' w2⟩
   |bk ρ4 h4=>rw[z]at w2;exact w2
   |rt v4 h4=>rw[z]at w2;exact w2
   |exc v4 h4=>rw[z]at w2;exact w2
   |bad=>rw[z]at w2;exact w2
noncomputable def mj(t:Tx)(body:Sx):Sx:=fun ρ h=>open Classical in if q:∃n,whl t body n ρ h≠.bad then whl t body q.choose ρ h else .bad
theorem AD{t:Tx}{body:List Stmt}(hp:PassesOwn (model X.prog X.w) X.A X.env X.xe)(hc:RT X T Ew c t)(hb:Tr X T Ew body f):RS X T Ew (.While c body [] pos) (mj t f):=by with_unfolding_all
 intro pins s σ H D I ⟨F,m,ρ,h,R,p⟩;unfold mj at p
 split at p
 ·rename_i q;exact vF q.choose hp hc hb pins s σ H D I ⟨F,m,ρ,h,R,p⟩
 ·exact p.elim
theorem Aa(t:Tx)(body:Sx):∀(n:Nat)(ρ:Ev)(h:List PO),whl t body n ρ h≠.bad→whl t body (n+1) ρ h=whl t body n ρ h:=by
 intro n
 induction n with
 |zero=>intro ρ h q;exact absurd rfl q
 |succ n ih=>
  intro ρ h q;rw[whl,whl]at*
  cases z:t ρ h with
  |bad=>rfl
  |exc e h=>rfl
  |ok b h1=>
   rw[z]at q;simp only[CU]at q ⊢
   cases b with
   |false=>rfl
   |true=>
    simp only[if_true]at q ⊢
    cases y:body ρ h1 with
    |nx ρ2 h2=>rw[y]at q;exact ih ρ2 h2 q
    |ct ρ2 h2=>rw[y]at q;exact ih ρ2 h2 q
    |bk ρ2 h2=>rfl
    |rt ρ2 h2=>rfl
    |exc ρ2 h2=>rfl
    |bad=>rfl
theorem Ab(t:Tx)(body:Sx){n k:Nat}{ρ:Ev}{h:List PO}(q:whl t body n ρ h≠.bad)(hk:n≤k):whl t body k ρ h=whl t body n ρ h:=by
 induction k with
 |zero=>
  have:n=0:=by omega
  subst this;rfl
 |succ k ih=>
  rcases Nat.lt_or_ge n (k+1)with z|z
  ·have e:=ih (by omega);rw[Aa t body k ρ h (by rw[e];exact q),e]
  ·have:n=k+1:=by omega
   rw[this]
theorem yP(t:Tx)(body:Sx){n:Nat}{ρ:Ev}{h:List PO}(q:whl t body n ρ h≠.bad):mj t body ρ h=whl t body n ρ h:=by
 have e:∃n,whl t body n ρ h≠.bad:=⟨n,q⟩
 unfold mj;rw[dif_pos e];rcases Nat.le_total n e.choose with z|z
 ·exact Ab t body q z
 ·exact(Ab t body e.choose_spec z).symm
end
inductive Out where
 |ok (v:PV)|bad
def di(v:PV)(h:List PO):Out:=match gR h v with
 |some (q,_)=>.ok q
 |none=>.bad
def bp(f:Sx)(np n:Nat)(ps:List PV):Out:=if ps.length=np then match f (ps.map some++List.replicate (n - ps.length) none) []with
  |.nx _ _=>.ok .non
  |.rt v h=>di v h
  |_=>.bad
 else .bad
noncomputable def Wj(K:W.Frag)(T:Tab)(np:Nat)(fn:List PV→Out):Sp:=fun vs H Q _=>∃F ps v,ps.length=np∧cD F H∧ak K T F [] ps vs∧fn ps=.ok v∧
 ∀F' H' x,cD F F'→cD H H'→cD F' H'→(∀a o,F' a=some o→F a=some o∨H a=none)→aF K T F' [] v x→Q x H'
theorem Dy{K:W.Frag}{T:Tab}{np:Nat}{fn:List PV→Out}{vs:List V}{H:Hp}{Q:VK}{E:XK}(h:Wj K T np fn vs H Q E):vs.length=np:=by obtain⟨F,ps,v,e,_,r,_⟩:=h;rw[← r.length];exact e
section
variable{P:Program}{w:World}{K:W.Frag}{mg:Str→Option Value}{base:Heap}{T:Tab}
theorem yS{N:List Str}{F:Hp}{ps:List PV}{vs:List V}(r:ak K T F [] ps vs):kB K T F [] (ps.map some++List.replicate (N.length - ps.length) none) (gV N vs):=by
 unfold L2.gV;have hl:=r.length;refine⟨by simp[hl],fun i p e=>?_⟩;rcases Nat.lt_or_ge i ps.length with hi|hi
 ·rw[List.getElem?_append_left (by simpa using hi),List.getElem?_map]at e
  cases q:ps[i]? with
  |none=>rw[q]at e;cases e
  |some p'=>
   rw[q]at e
   cases e
   obtain⟨v,h1,h2⟩:=r.get q;exact⟨v,by rw[List.getElem?_append_left (by simp;omega),List.getElem?_map,h1];rfl,h2⟩
 ·rw[List.getElem?_append_right (by simpa using hi)]at e;rw[List.getElem?_replicate]at e
  split at e<;>cases e
theorem ER{x C_:Str}{st:Stmt}{f:Addr}{fd:FuncData}{N ps:List Str}{k:Nat}{g:Sx}(Fn:U9 K x C_ st f fd)(Sc:gM N ps (aK st))
  (hb:∀(K9:Value)(A:Around)(outer:List Env)(s:Shared)(H:Hp)(E:XK),bZ k (A.deeper (envOfC C_ (aK st) s.heap.objs.size f K9))→
   Tr (jy QT P w K mg base N C_ (aK st) f K9 A outer s H E).Wm T (fun _ _ _=>False) (cO st) g):
  cP P w K mg base QT (k+1) f fd ps (Wj K T ps.length (bp g ps.length N.length)):=by with_unfolding_all
 refine Fn.ok Sc (fun vs H Q E h=>Dy h) fun K9 A outer s H vs Q E hr h=>⟨_,hb K9 A outer s H E hr,?_⟩
 obtain⟨F,qs,v,hl,sm,r,e,q⟩:=h;have R0:fY K T F [] (qs.map some++List.replicate (N.length - qs.length) none) [] (gV N vs) H:=⟨⟨sm,rfl,fun i o a h1 h2=>by simp at h1,List.nodup_nil⟩,yS r⟩
 refine⟨F,[],_,[],R0,?_⟩;unfold bp at e;rw[if_pos hl]at e;have Wk:∀{F' m' H'},aX F [] H F' m' H'→cD H H':=fun s b o hb=>s.fr b o hb (by simp)
 have fin:∀{F' m' H' h' p x},aX F [] H F' m' H'→RelH K T F' m' h' H'→aF K T F' m' p x→di p h'=.ok v→Q x H':=by
  intro F' m' H' h' p x s R rp ef;unfold di at ef
  cases z:gR h' p with
  |none=>rw[z]at ef;cases ef
  |some ab=>
   obtain⟨p2,h2⟩:=ab;rw[z]at ef
   cases ef
   obtain⟨F2,s2,R2,r2,hp⟩:=hU R rp z;refine q F2 H' x (s.fz.trans s2.fz) (Wk s) R2.same (fun a o ea=>?_) (r2.J_ hp);rcases(s.trans s2).SX a o ea with z|z|z
   ·exact .inl z
   ·exact .inr z
   ·simp at z
 cases z:g (qs.map some++List.replicate (N.length - qs.length) none) []with
 |nx ρ h1=>
  rw[z]at e
  cases e
  exact fun F' m' H' σ' s R=>q F' H' .non s.fz (Wk s) R.same (fun a o ea=>by
   rcases s.SX a o ea with z|z|z
   ·exact .inl z
   ·exact .inr z
   ·simp at z) .non
 |rt p h1=>rw[z]at e;exact fun F' m' H' x s R rp=>fin s R rp e
 |bk _ _=>rw[z]at e;cases e
 |ct _ _=>rw[z]at e;cases e
 |exc _ _=>rw[z]at e;cases e
 |bad=>rw[z]at e;cases e
end
def bg(fn:List PV→Out)(ps:List PV)(h:List PO):Res PV:=match N8 ps h with
 |some (qs,h2)=>match fn qs with
  |.ok v=>.ok v h2
  |.bad=>.bad
 |none=>.bad
def bo(fn:List PV→Out)(as:Ax):Ex:=fun ρ h=>(as ρ h).bind (bg fn)
section
variable{X:Cx}{T:Tab}{Ew:XK}{a b e:Expr}{es:List Expr}{fa fb:Ex}{fs:Ax}{pos p0:Pos}{k:Nat}{f:Addr}{fd:FuncData}{ps:List Str}{fn:List PV→Out}{x:Str}
theorem zL{F H:Hp}{m:List Addr}{h:List PO}{Q:VK}{K:W.Frag}{np:Nat}{qs:List PV}{vs:List V}{E:XK}(UG:∀qs v,fn qs=.ok v→qs.length=np)(R:RelH K T F m h H)(r:ak K T F m qs vs)(w:aD K T (aF K T) F m H Q Ew (bg fn qs h)):Wj K T np fn vs H Q E:=by
 unfold bg at w
 cases z:N8 qs h with
 |none=>rw[z]at w;exact w.elim
 |some ab=>
  obtain⟨q2,h2⟩:=ab;rw[z]at w;dsimp only at w;obtain⟨F2,s2,R2,r2,hp⟩:=uO R r z
  cases y:fn q2 with
  |bad=>rw[y]at w;exact w.elim
  |ok v=>
   rw[y]at w;refine⟨F2,q2,v,UG _ _ y,R2.same,r2.J_ hp,y,fun F' H' x a1 a2 a3 a4 rx=>?_⟩;have s3:aX F2 m H F' m H':=⟨a1,⟨[],by simp⟩,fun b o hb _=>a2 b o hb,fun b o hb=>⟨o,a2 b o hb⟩,fun i a hi e=>(by rw[List.getElem?_eq_none hi]at e;cases e),fun a o ea=>(a4 a o ea).elim .inl (fun z=>.inr (.inl z))⟩
   refine w F' m H' x (s2.trans s3) ⟨a3,R2.len,fun i o a e1 e2=>?_,R2.nd⟩ (rx.mono (cD.refl _) fun i a e=>by simp at e);have q:=R2.obj i o a e1 e2
   have live:F2 a=none→(∃u,H a=some u)→F' a=none:=fun n ⟨u,hu⟩=>by
    cases z:F' a with
    |none=>rfl
    |some o=>
     rcases a4 a o z with y|y
     ·rw[n]at y;cases y
     ·rw[hu]at y;cases y
   cases o with
   |lst xs=>obtain⟨f0,ws,z,rr⟩:=q;exact⟨live f0 ⟨_,z⟩,ws,a2 _ _ z,s3.reps rr⟩
   |dct xs=>obtain⟨f0,ws,z,kk,rr⟩:=q;exact⟨live f0 ⟨_,z⟩,ws,a2 _ _ z,kk,s3.reps rr⟩
   |J7 p'=>obtain⟨r1,r3,o,r4⟩:=q;exact⟨s3.rep r1,r3,o,a1 _ _ r4⟩
theorem DL(F:cP X.prog X.w X.K X.mg X.base QT k f fd ps (Wj X.K T ps.length fn))(UG:∀qs v,fn qs=.ok v→qs.length=ps.length)(hr:bZ k X.A)(hg:Gl X x)(hm:X.mg x=some (.ref f))(hk:W.keepIn X.K (.ref f)=true)(hb:eF X.K fd ps [])
  (ha:RA X T Ew (e::es) fs) (Ql:nD0 x:=by decide)(he:sE0 X e es:=by rfl) (Oc:sP0 X es pos:=by rfl):
  RE X T Ew (.Call (.Name x p0) (e::es) [] pos) (bo fn fs):=by with_unfolding_all
 refine PE.imp (xH F hr hg hm hk hb .nil Ju ha Ql he Oc) ?_;rintro σ H Q ⟨F,m,ρ,h,R,p⟩;refine⟨F,m,ρ,h,R,(aD.bind p).mono ?_⟩;rintro vs H1 ⟨F1,m1,h1,qs,s1,R1,r1,w1⟩
 rw[List.append_nil];exact zL UG R1 r1 w1
theorem AC{f:Sx}{np n:Nat}:∀qs v,bp f np n qs=.ok v→qs.length=np:=fun qs v h=>by
 unfold bp at h
 split at h
 ·assumption
 ·cases h
theorem ul{u:Value}{i:Int}(hg:Gl X x)(hm:X.mg x=some u)(r:bn (.int i) u)(hd:nD0 x:=by decide):RE X T Ew (.Name x pos) (cK (.int i)):=by with_unfolding_all exact(
  fB (rX hg hm r hd) fun _ _=>.int i)
end
noncomputable def kY(kvs:List (PK×PV))(k:PK)(v:PV):List (PK×PV):=
 if(kvs.any fun kv=>decide (kv.1=k))=true then kvs.map (fun kv=>if kv.1=k then(kv.1,v)else kv)else kvs++ [(k,v)]
section
variable{K:W.Frag}{T:Tab}{F H:Hp}{m:List Addr}
def fX(K:W.Frag)(T:Tab)(F:Hp)(m:List Addr)(kps:List (PK×PV))(kvs:List (Key×V)):Prop:=kvs.map (·.1)=kps.map (fun p=>tk p.1)∧ak K T F m (kps.map (·.2)) (kvs.map (·.2))
theorem fX.nil:fX K T F m [] []:=⟨rfl,.nil⟩
theorem fX.any(k:PK):∀{kps:List (PK×PV)}{kvs:List (Key×V)},kvs.map (·.1)=kps.map (fun p=>tk p.1)→(kvs.any fun kv=>decide (kv.1=tk k))=kps.any fun kv=>decide (kv.1=k)
 |[],[],_=>rfl
 |[],_::_,h=>by simp at h
 |_::_,[],h=>by simp at h
 |(k1,p1)::kps,(k2,v2)::kvs,h=>by
  simp only[List.map_cons,List.cons.injEq]at h;rw[List.any_cons,List.any_cons,fX.any k h.2]
  congr 1
  rw[h.1]
  by_cases e:k1=k
  ·subst e;simp
  ·have:¬ tk k1=tk k:=fun z=>e (vz z);simp[e,this]
theorem fX.repl{k:PK}{p:PV}{v:V}(r:aF K T F m p v):∀{kps:List (PK×PV)}{kvs:List (Key×V)},fX K T F m kps kvs→fX K T F m (kps.map fun kv=>if kv.1=k then(kv.1,p)else kv) (kvs.map fun kv=>if kv.1=tk k then(kv.1,v)else kv)
 |[],[],_=>.nil
 |[],_::_,h=>by have:=h.1;simp at this
 |_::_,[],h=>by have:=h.1;simp at this
 |(k1,p1)::kps,(k2,v2)::kvs,⟨h1,h2⟩=>by
  simp only[List.map_cons,List.cons.injEq]at h1 h2
  cases h2 with
  |cons a b=>
   obtain⟨i1,i2⟩:=fX.repl (k:=k) r (kps:=kps) (kvs:=kvs) ⟨h1.2,b⟩;simp only[List.map_cons]
   by_cases e:k1=k
   ·subst e;rw[if_pos h1.1,if_pos rfl];exact⟨by simp only[List.map_cons,h1.1,i1],.cons r i2⟩
   ·have e2:¬ k2=tk k:=fun z=>e (vz (h1.1.symm.trans z));rw[if_neg e2,if_neg e];exact⟨by simp only[List.map_cons,h1.1,i1],.cons a i2⟩
theorem fX.put{k:PK}{p:PV}{v:V}{kps:List (PK×PV)}{kvs:List (Key×V)}(h:fX K T F m kps kvs)(r:aF K T F m p v):fX K T F m (kY kps k p) (iD kvs (tk k) v):=by
 unfold kY iD;rw[fX.any k h.1]
 split
 ·exact h.repl r
 ·exact⟨by rw[List.map_append,List.map_append,h.1];rfl,by rw[List.map_append,List.map_append];exact h.2.append (.cons r .nil)⟩
theorem fX.merge:∀{more:List (PK×PV)}{mv:List (Key×V)}{kps:List (PK×PV)}{kvs:List (Key×V)},fX K T F m more mv→fX K T F m kps kvs→fX K T F m (more.foldl (fun acc kv=>kY acc kv.1 kv.2) kps) (gl kvs mv)
 |[],[],_,_,_,h=>h
 |[],_::_,_,_,h,_=>by have:=h.1;simp at this
 |_::_,[],_,_,h,_=>by have:=h.1;simp at this
 |(k1,p1)::more,(k2,v2)::mv,kps,kvs,⟨h1,h2⟩,h=>by
  simp only[List.map_cons,List.cons.injEq]at h1 h2
  cases h2 with
  |cons a b=>show fX K T F m (more.foldl _ (kY kps k1 p1)) (gl (iD kvs k2 v2) mv);rw[h1.1];exact fX.merge ⟨h1.2,b⟩ (h.put a)
end
def iQ:List (Ex×Ex)→Ev→List PO→Res (List (PK×PV))
 |[],_,h=>.ok [] h
 |(a,b)::r,ρ,h=>(a ρ h).bind fun x h1=>(b ρ h1).bind fun y h2=>match lF x with
  |some k=>(iQ r ρ h2).bind fun ps h3=>.ok ((k,y)::ps) h3
  |none=>.bad
def mkD(ps:List (PK×PV)):List (PK×PV):=ps.foldl (fun acc kv=>kY acc kv.1 kv.2) []
def uY(fs:List (Ex×Ex)):Ex:=fun ρ h=>(iQ fs ρ h).bind fun ps h1=>.ok (.dct (mkD ps)) h1
@[irreducible] def YH(X:Cx)(T:Tab)(Ew:XK)(pos:Pos)(keys:List (Option Expr))(values:List Expr)(fs:List (Ex×Ex)):Prop:=YJ X pos keys values (fs.map fun p=>(wE X T Ew p.1,wE X T Ew p.2))
section
variable{X:Cx}{T:Tab}{Ew:XK}{a b k v o e f:Expr}{fa fb fo:Ex}{pos apos Oe:Pos}{keys:List (Option Expr)}{values:List Expr}{fs:List (Ex×Ex)}
theorem DE:YH X T Ew pos [] [] []:=by with_unfolding_all exact(
  DX)
theorem kU(hk:RE X T Ew k fa)(hv:RE X T Ew v fb)(hr:YH X T Ew pos keys values fs):YH X T Ew pos (some k::keys) (v::values) ((fa,fb)::fs):=by with_unfolding_all exact(
  Bh hk hv hr)
theorem qq{σ:St}{ρ:Ev}:∀(fs:List (Ex×Ex)){F:Hp}{m:List Addr}{h:List PO}{H:Hp}{Q:List (V×V)→Hp→Prop},fY X.K T F m ρ h σ H→
  aD X.K T (fun F m ps vs=>∃kvs:List (Key×V),vs=kvs.map (fun kv=>(kV kv.1,kv.2))∧fX X.K T F m ps kvs) F m H Q Ew (iQ fs ρ h)→rf (fs.map fun p=>(wE X T Ew p.1,wE X T Ew p.2)) σ H Q
 |[],F,m,h,H,Q,R,p=>aD.here p R.toRelH ⟨[],rfl,.nil⟩
 |(fa,fb)::fs,F,m,h,H,Q,R,p=>by
  refine⟨F,m,ρ,h,R,(aD.bind p).mono ?_⟩;rintro x H1 ⟨F1,m1,h1,px,s1,R1,r1,w1⟩;refine⟨F1,m1,ρ,h1,R.of s1 R1,(aD.bind w1).mono ?_⟩;rintro y H2 ⟨F2,m2,h2,py,s2,R2,r2,w2⟩
  cases q:lF px with
  |none=>rw[q]at w2;exact w2.elim
  |some kk=>rw[q]at w2;refine qq fs ((R.of s1 R1).of s2 R2) ((aD.bind w2).mono ?_);rintro vs H3 ⟨F3,m3,h3,ps,s3,R3,⟨kvs,e3,r3⟩,w3⟩;subst e3;have ex:=jH (s2.rep r1) q;subst ex;exact aD.here w3 R3 ⟨(tk kk,y)::kvs,rfl,by simp only[List.map_cons,r3.1],.cons (s3.rep r2) r3.2⟩
theorem kA.mono{K:W.Frag}{T:Tab}{F F':Hp}{m m':List Addr}{e:PV}{cls:Value}{dx:Option Addr}(h:kA K T F m e cls dx)(hF:cD F F')(hm:∀(i:Nat)(a:Addr),m[i]? =some a→m'[i]? =some a):kA K T F' m' e cls dx:=by
 unfold kA at h ⊢
 split at h
 ·exact h
 ·obtain⟨Ca,d,y,h1,h2,h3,h4,h5⟩:=h;exact⟨Ca,d,y,h1,h2,h3,hF _ _ h4,h5.mono hF hm⟩
 ·exact h.elim
theorem sQ{F F2 H H2:Hp}{m m2:List Addr}{p:Addr}{o u:HO}{h2:List PO}(R:∀a o,F a=some o→H a=some o)(hp:H p=none)(s:aX F m (upd H p o) F2 m2 H2)(R2:RelH X.K T F2 m2 h2 H2)(hm:p∉m):H2 p=some o∧F2 p=none∧p∉m2∧
  aX F m H (upd F2 p u) m2 (upd H2 p u)∧RelH X.K T (upd F2 p u) m2 h2 (upd H2 p u):=by
 have e1:H2 p=some o:=s.fr p o aG hm
 have hF:F p=none:=by
  cases q:F p with
  |none=>rfl
  |some z=>rw[R p z q]at hp;cases hp
 have e2:F2 p=none:=by
  cases q:F2 p with
  |none=>rfl
  |some z=>
   rcases s.SX p z q with y|y|y
   ·rw[hF]at y;cases y
   ·rw[aG]at y;cases y
   ·exact absurd y hm
 have e3:p∉m2:=fun z=>by
  rcases s.mem z with y|y
  ·exact hm y
  ·rw[aG]at y;cases y
 have sF:cD F2 (upd F2 p u):=fm e2 u;refine⟨e1,e2,e3,⟨s.fz.trans sF,s.pre,fun b z hb n=>?_,fun b z hb=>?_,fun i a hi ea=>?_,fun a z ea=>?_⟩,⟨fun b z hb=>?_,R2.len,fun i ob a h1 Ws=>?_,R2.nd⟩⟩
 ·have UJ:b≠p:=ar hb hp;rw[ai UJ];exact s.fr b z (by rw[ai UJ];exact hb) n
 ·have UJ:b≠p:=ar hb hp;obtain⟨z',ez⟩:=s.dom b z (by rw[ai UJ];exact hb);exact⟨z',by rw[ai UJ];exact ez⟩
 ·have q:=s.new i a hi ea;have UJ:a≠p:=fun z=>by rw[z,aG]at q;cases q
  rw[ai UJ]at q;exact q
 ·by_cases ha:a=p
  ·subst ha;exact .inr (.inl hp)
  ·rw[ai ha]at ea;rcases s.SX a z ea with y|y|y
   ·exact .inl y
   ·rw[ai ha]at y;exact .inr (.inl y)
   ·exact .inr (.inr y)
 ·by_cases ha:b=p
  ·subst ha;rw[aG]at hb ⊢;exact hb
  ·rw[ai ha]at hb ⊢;exact R2.same b z hb
 ·have Xa:a≠p:=fun z=>e3 (by rw[← z];exact List.mem_of_getElem? Ws);have q:=R2.obj i ob a h1 Ws
  cases ob with
  |lst xs=>obtain⟨f0,ws,z,rr⟩:=q;exact⟨by rw[ai Xa];exact f0,ws,by rw[ai Xa];exact z,rr.mono sF fun _ _ h=>h⟩
  |dct xs=>obtain⟨f0,ws,z,kk,rr⟩:=q;exact⟨by rw[ai Xa];exact f0,ws,by rw[ai Xa];exact z,kk,rr.mono sF fun _ _ h=>h⟩
  |J7 p'=>obtain⟨r1,r3,o,r4⟩:=q;exact⟨r1.mono sF fun _ _ h=>h,r3,o,sF _ _ r4⟩
theorem RelH.fresh{K:W.Frag}{F H:Hp}{m:List Addr}{h:List PO}(R:RelH K T F m h H){p:Addr}(hp:H p=none):p∉m:=fun z=>by
 obtain⟨i,e⟩:=List.mem_iff_getElem?.mp z
 have hi:i<h.length:=by
  rw[R.len];rcases Nat.lt_or_ge i m.length with q|q
  ·exact q
  ·rw[List.getElem?_eq_none q]at e;cases e
 have q:=R.obj i _ p (List.getElem?_eq_getElem hi) e
 cases ho:h[i]with
 |lst xs=>rw[ho]at q;obtain⟨_,vs,z,_⟩:=q;rw[hp]at z;cases z
 |dct xs=>rw[ho]at q;obtain⟨_,vs,z,_⟩:=q;rw[hp]at z;cases z
 |J7 xs=>rw[ho]at q;obtain⟨_,_,o,z⟩:=q;rw[R.same _ _ z]at hp;cases hp
theorem AI{F H:Hp}{m:List Addr}{ρ:Ev}{h:List PO}{σ:St}(R:fY X.K T F m ρ h σ H){p:Addr}(hp:H p=none)(o:HO):fY X.K T F m ρ h σ (upd H p o):=by
 have hm:=R.toRelH.fresh hp;refine⟨⟨fun b u e=>?_,R.len,fun i ob a h1 h2=>?_,R.nd⟩,R.env⟩
 ·rw[ai (ar (R.same _ _ e) hp)];exact R.same b u e
 ·have Xa:a≠p:=fun z=>hm (by rw[← z];exact List.mem_of_getElem? h2);have q:=R.obj i ob a h1 h2
  cases ob with
  |lst xs=>obtain⟨f0,ws,z,rr⟩:=q;exact⟨f0,ws,by rw[ai Xa];exact z,rr⟩
  |dct xs=>obtain⟨f0,ws,z,kk,rr⟩:=q;exact⟨f0,ws,by rw[ai Xa];exact z,kk,rr⟩
  |J7 p'=>exact q
theorem DJ(h:YH X T Ew pos keys values fs)(Ue:keys.all (·.isSome)=true)(hl:keys.length=values.length)(h0:keys≠ [])(Xu:keys.length≤15)(hfl:fs.length=keys.length):RE X T Ew (.Dict keys values pos) (uY fs):=by with_unfolding_all
 refine PE.imp (FA (Ed h Ue hl h0 Xu)) ?_;rintro σ H Q ⟨F,m,ρ,hh,R,p⟩ pp hp;have hm:=R.toRelH.fresh hp;have R':=AI R hp (.dK [])
 have L_:∀{fs:List (Ex×Ex)} {h ps h'},iQ fs ρ h=.ok ps h'→ps.length=fs.length:=by
  intro fs
  induction fs with
  |nil=>intro h ps h' e;simp[iQ]at e;rw[e.1];rfl
  |cons x r ih=>
   intro h ps h' e;obtain⟨fa,fb⟩:=x;simp only[iQ]at e
   cases q1:fa ρ h with
   |bad=>rw[q1]at e;cases e
   |exc _ _=>rw[q1]at e;cases e
   |ok x1 h1=>
    rw[q1]at e;simp only[Res.M4]at e
    cases q2:fb ρ h1 with
    |bad=>rw[q2]at e;cases e
    |exc _ _=>rw[q2]at e;cases e
    |ok y1 h2=>
     rw[q2]at e;simp only[Res.M4]at e
     cases q3:lF x1 with
     |none=>rw[q3]at e;cases e
     |some kk=>
      rw[q3]at e;dsimp only at e
      cases q4:iQ r ρ h2 with
      |bad=>rw[q4]at e;cases e
      |exc _ _=>rw[q4]at e;cases e
      |ok ps3 h3=>
       rw[q4]at e
       cases e
       simp[ih q4]
 unfold uY at p;refine qq fs R' ?_
 cases q:iQ fs ρ hh with
 |bad=>rw[q]at p;exact p
 |exc e1 h1=>
  rw[q]at p;intro F2 m2 H2 x dx s2 R2 rx;obtain⟨e1,e2,e3,s3,R3⟩:=sQ (u:=.dK []) R.same hp s2 R2 hm
  have hs:upd H2 pp (.dK [])=H2:=by
   funext b
   by_cases hb:b=pp
   ·subst hb;rw[aG,e1]
   ·rw[ai hb]
  rw[hs]at s3 R3;exact p _ m2 H2 x dx s3 R3 (rx.mono (fm e2 _) fun _ _ h=>h)
 |ok ps h1=>
  rw[q]at p;intro F2 m2 H2 vs s2 R2 ⟨kvs,ev,rk⟩;obtain⟨e1,e2,e3,_,_⟩:=sQ (u:=.dK (gl [] kvs)) R.same hp s2 R2 hm;have hkl:kvs.length=ps.length:=by have:=congrArg List.length rk.1;simpa using this
  refine⟨e1,kvs,ev,by rw[hkl,L_ q,hfl];exact Xu,?_⟩;have rm:fX X.K T F2 m2 (mkD ps) (gl [] kvs):=fX.merge rk .nil;refine .inr ⟨pp,_,aG,fun o=>?_⟩;rw[wY];obtain⟨_,_,_,s3,R3⟩:=sQ (u:=.SQ o (.dK (gl [] kvs))) R.same hp s2 R2 hm;have sF:cD F2 (upd F2 pp (.SQ o (.dK (gl [] kvs)))):=fm e2 _;exact p _ m2 _ _ s3 R3 (.dct aG rm.1 (rm.2.mono sF fun _ _ h=>h))
theorem xD{K:W.Frag}{T:Tab}:et K T (fun x y H Q=>y=.non∧Q (.bl (decide (x=.non))) H) Vx:=by
 intro F m h H x y p q Q Ew R rp rq w;unfold Vx at w
 split at w
 ·cases rq;exact⟨rfl,by rw[qJ rp];exact aQ w R (.bl _)⟩
 ·exact w.elim
theorem kj{K:W.Frag}{T:Tab}:et K T (fun x y H Q=>y=.non∧Q (.bl (!decide (x=.non))) H) fN:=by
 intro F m h H x y p q Q Ew R rp rq w;unfold fN at w
 split at w
 ·cases rq;exact⟨rfl,by rw[qJ rp];exact aQ w R (.bl _)⟩
 ·exact w.elim
end
noncomputable def xh(K:W.Frag):Sp:=fun vs H Q _=>∃(a:Addr)(ns:List Int),vs= [.ref a]∧Og K H a (ns.map V.int)∧ns.length≤63∧∀H',Q (.bl true) H'
theorem qj{K:W.Frag}{T:Tab}{F:Hp}{m:List Addr}:∀ns:List Int,ak K T F m (ns.map PV.int) (ns.map V.int)
 |[]=>.nil
 |n::r=>.cons (.int n) (qj r)
theorem yL{K:W.Frag}{T:Tab}{fn:List PV→Out}(h:∀ns:List Int,ns.length≤63→fn [.Qs (ns.map PV.int)]=.ok (.bl true)):∀vs H Q E,xh K vs H Q E→Wj K T 1 fn vs H Q E:=by
 rintro vs H Q E ⟨a,ns,rfl,sq,hl,q⟩
 refine⟨fun b=>if b=a then H a else none,[.Qs (ns.map PV.int)],.bl true,rfl,fun b o e=>?_,.cons (.Qs ?_ (qj ns)) .nil,h ns hl,fun F' H' x _ _ _ _ r=>?_⟩
 ·by_cases hb:b=a
  ·subst hb;have e':H b=some o:=by simpa using e
   exact e'
  ·have e':(none:Option HO)=some o:=by simpa[hb]using e
   cases e'
 ·rcases sq with(sq|⟨o,sq⟩)|sq
  ·exact .inl (.inl (by simpa using sq))
  ·exact .inl (.inr ⟨o,by simpa using sq⟩)
  ·exact .inr sq
 ·cases r;exact q H'
theorem Cc{l:W.OpenLaw}{k:Nat}{q:Program}{loose:List Str}{XP:(Str→Option Value)→Heap→Prop}{YP:World→Heap→Prop}{d:DefRec}{K:Params→W.Frag}{x:Str}(hn:l.most=some 63)(Yq:d.params.defaults= [])(hr:bZ k callerA)
  (hY:∀(w:World)(h:Heap),YP w h→(K w.params).In h)
  (F:∀(w:World)(mg:Str→Option Value)(fa:Addr)(h:Heap),(K w.params).In h→h.Ns mainGlobals mg→mg d.name=some (.ref fa)→
   ∃fd:FuncData,(∀(s:Shared)(u:Value),BindsTo s fd ⟨[u],[]⟩ [(x,u)])∧∀base:Heap,(K w.params).In base→base.Ns mainGlobals mg→cP l.prog w (K w.params) mg base QT k fa fd [x] (xh (K w.params))):
  W.WalkO q loose XP YP l.row.toRowW d [] (fun f vs=>PySem.call f vs):=
 L2.Dq (n:=63) (k:=k) (x:=x) (CX:=fun _=>QT) (sp:=fun w=>xh (K w.params)) hn (by decide) Yq hr hY F (fun _ _ a ns hl _ hS=>⟨a,ns,rfl,hS,hl,fun _=>rfl⟩) fun _ _ _ _ _ z=>z
end L3
namespace L2
open PySem PySem.Spec PyProof.Rows
end L2
namespace L3
open PySem PySem.Spec PyProof.Rows L2
end L3
namespace L2
open PySem PySem.Spec PyProof.Rows PySem.Builtin PySem.Builtin.Str
section
variable{X:Cx}
theorem uZ:∀{bs:List Bool}{us:List Value},aW (bs.map V.bl) us→LSm.BoolsAre us bs
 |[],_,.nil=>.nil
 |b::r,_,.cons e t=>by
  cases e
  exact .cons b (uZ t)
end
end L2
namespace L3
open PySem PySem.Spec PyProof.Rows L2
section
variable{X:Cx}{T:Tab}{Ew:XK}{pos p0:Pos}
noncomputable def eX:List PV→Option (List Bool)
 |[]=>some []
 |.bl b::r=>(eX r).map (b:: ·)
 |_::_=>none
theorem mX{K:W.Frag}{F:Hp}{m:List Addr}:∀{ps:List PV}{vs:List V}{bs:List Bool},eX ps=some bs→ak K T F m ps vs→vs=bs.map V.bl
 |[],_,bs,e,.nil=>by simp[eX]at e;subst e;rfl
 |p::r,_,bs,e,.cons rp rr=>by
  cases rp with
  |bl b=>simp only[eX,Option.map_eq_some_iff]at e;obtain⟨b2,e2,rfl⟩:=e;rw[mX e2 rr];rfl
  |_=>simp[eX]at e
theorem fA{x:Str}{a:Addr}{C:Nat}(hg:Gl X x)(hm:X.mg x=some (.ref a))(hT:T C=some a)(hd:nD0 x:=by decide):RE X T Ew (.Name x pos) (cK (.cls C)):=by with_unfolding_all exact(
  fB (rX (v:=.ref a) hg hm rfl hd) fun _ _=>.cls hT)
end
end L3
namespace L2
open PySem PySem.Spec PyProof.Rows PySem.Builtin
abbrev gY(b:Bool):Obj:={ cls:=.type "set",dict:=none,data:=.set #[] 0 (.fresh 0 0 b) }
section
variable{κ:Type} [DecidableEq κ]
noncomputable def nB(σ:List κ)(k:κ):List κ:=if k∈σ then σ else σ++[k]
def bM(f:Nat→κ):Nat→List κ
 |0=> []
 |n+1=>nB (bM f n) (f n)
theorem uG{σ:List κ}{k x:κ}:x∈nB σ k↔x∈σ∨x=k:=by
 unfold nB
 split
 ·rename_i h;exact⟨.inl,fun z=>z.elim id fun e=>e▸h⟩
 ·rw[List.mem_append,List.mem_singleton]
theorem uI(σ:List κ)(k:κ):(nB σ k).length=if k∈σ then σ.length else σ.length+1:=by
 unfold nB
 split
 ·rfl
 ·rw[List.length_append,List.length_singleton]
theorem mI(f:Nat→κ)(n:Nat):(bM f n).length≤n:=by
 induction n with
 |zero=>exact ab2 _
 |succ n ih=>
  show(nB _ _).length≤_;rw[uI]
  split<;>omega
abbrev Zg(σ:List κ)(k:κ):Bool:=decide (k∈σ)
end
section
variable{P:Program}{w:World}{A:Around}{R:Result→Shared→Prop}{it:Addr}{fp wr:List Addr}{G:Array GenState→Array GenState→Prop}{n:Nat}{Pn:Nat→Value→Prop}{St:Nat→Shared→Prop}
theorem uf{h h':Heap}{a:Addr}{f:Str→Bool}{c:Nat}(e:∀o,h.get? a=some o→h'.get? a=some o)(z:h.SetOf (strKind P w) a f c):h'.SetOf (strKind P w) a f c:=by obtain⟨o,es,ep,t,q,rest⟩:=z;exact⟨o,es,ep,t,e o q,rest⟩
theorem ug(W:WalksS P w A.in1 it fp wr G n Pn St)(a:Addr)(out:a∉fp)(f:Nat→Str)(txt:∀i v,Pn i v→∃t,v=.str (f i) t)(few:n+1<scanBound)(r:Nat):
  ∀(i:Nat)(s:Shared),i+r=n→St i s→s.heap.SetOf (strKind P w) a (Zg (bM f i)) (bM f i).length→
   (∀s',Moved (a::wr) G s s'→s'.heap.SetOf (strKind P w) a (Zg (bM f n)) (bM f n).length→R (.ok (.ret .none)) s')→
   codeAny (model P w) A (.builtin "set.update.loop" ⟨[.ref a,.ref it],[]⟩) R s:=by
 have aw:a∉wr:=fun z=>out (W.sub _ z);have tl:∀b∈wr,b∈a::wr:=fun _ z=>List.mem_cons_of_mem _ z
 induction r with
 |zero=>intro i s e st so k;obtain rfl:i=n:=e;apply codeAny_builtin F.entry_set_update_loop;rw[Around.under_plainId F.plain_set_update_loop _];apply wpAny_bind (m:=pyNext (.ref it));exact W.done s _ _ st fun s' mv=>wpAny_pure (k s' (mv.mono tl) (uf (fun o q=>mv.heap a o aw q) so))
 |succ r ih=>
  intro i s e st so k;apply codeAny_builtin F.entry_set_update_loop;rw[Around.under_plainId F.plain_set_update_loop _];apply wpAny_bind (m:=pyNext (.ref it));refine W.item i s _ _ (by omega) st fun v s' hv T6 mv=>?_;obtain⟨t,rfl⟩:=txt i v hv;have so':=uf (h':=s'.heap) (fun o q=>mv.heap a o aw q) so;apply wpAny_bind (m:=holding [Value.str (f i) t] (setAdd a (.str (f i) t)));apply wpAny_holding;unfold setAdd;apply wpAny_holding;apply wpAny_bind;apply (strKind P w).pyHash (strKind_is P w (f i) t);have room:=mI f i;refine wpAny_setAddHashed_of (knd:=strKind P w) (strKind_is _ _ _ _) rfl so' (by omega) fun h' sb so2=>wpAny_pure ⟨plainId_quiet F.plain_set_update_loop _,?_⟩;have other:∀b,b≠a→∀o,s'.heap.get? b=some o→h'.get? b=some o:=fun b ne o q=>(sb.2 b ne).trans q
  have next:h'.SetOf (strKind P w) a (Zg (bM f (i+1))) (bM f (i+1)).length:=by
   refine SetOf_congr so2 (fun x=>?_) ?_
   ·rw[Bool.eq_iff_iff,Bool.or_eq_true,decide_eq_true_eq,decide_eq_true_eq,decide_eq_true_eq];exact uG.symm
   ·show _=(nB _ _).length;rw[uI];simp only[decide_eq_true_eq]
  refine ih (i+1) _ (by omega) (W.frame _ s' _ _ T6 (Nat.le_succ _) fun b hb o q=>other b (fun z=>out (z▸hb)) o q) next fun s2 mv2 so3=>k s2 ?_ so3;exact Moved.trans W.gtrans ((mv.mono tl).then_heap (Nat.le_succ _) fun b o hb q=>other b (fun z=>hb (z▸List.mem_cons_self)) o q) mv2
end
section
variable{P:Program}{w:World}{A:Around}{E:Value→Shared→Prop}{s:Shared}
theorem xf{zs:List Str}{us:List Value}(r:aW (zs.map V.str) us)(i:Nat)(v:Value)(e:us[i]? =some v):∃t,v=.str (zs.getD i Str.empty) t:=by
 induction zs generalizing us i with
 |nil=>cases r;simp at e
 |cons z q ih=>
  cases r with
  |cons h t=>
   obtain⟨k,rfl⟩:=h
   cases i with
   |zero=>simp at e;exact⟨k,e.symm⟩
   |succ i=>exact ih t i (by simpa using e)
abbrev tH(P:Program)(w:World)(s:Shared)(a:Addr)(zs:List Str)(n:Nat)(h':Heap):Prop:=
 h'.SetOf (strKind P w) a (Zg (bM (fun i=>zs.getD i Str.empty) n)) (bM (fun i=>zs.getD i Str.empty) n).length∧∀b o,b<a→s.heap.get? b=some o→h'.get? b=some o
theorem Av{b:Bool}{l:Addr}{its:Array Value}{zs:List Str}(hh:A.handled=none)(hl:s.heap.IsList l its)(r:aW (zs.map V.str) its.toList)(few:its.size+1<scanBound):
  codeAny (model P w) A (.call (.builtin "set.__init__") ⟨[.ref s.heap.objs.size,.ref l],[]⟩)
   (wants (fun u s2=>u=.none∧∃h' tk,s2= { s with heap:=h',toks:=tk }∧tH P w s s.heap.objs.size zs its.size h') E) { s with heap:=s.heap.push (gY b) }:=by
 have Qu:(s.heap.push (gY b)).get? s.heap.objs.size=some (gY b):=Heap.get?_push_size _ rfl;refine codeAny_call_builtin F.called_set.init.plain F.entry_set_init (check_set_init_1 ⟨_,Qu,rfl⟩ ?_);obtain⟨⟨oc,od,X4,Rz⟩,q,c1,c,c2⟩:=hl
 cases c1
 cases c2
 have q':(s.heap.push (gY b)).get? l=some { cls:=.type "list",dict:=od,data:=.seq its c,slots:=Rz }:=Heap.get?_push_of_some _ q;have n1:=F.sub_list_set;have n2:=F.sub_list_frozenset;have n3:(Value.type "list"==Value.type "dict")=false:=by decide
 have ll:l<s.heap.objs.size:=Heap.lt_size q;have Yc:(s.heap.push (gY b)).IsList l its:=⟨_,q',rfl,c,rfl⟩
 unfold Builtin.«set.__init__» noKeywords Builtin.Frozenset.updateFrom;generalize gi:pyIter=iter
 wp_walk
 subst gi;apply wpAny_pyIter_list Yc;refine wpAny_bind<|wpAny_runValue ?_
 have sz:(s.heap.push (gY b)).objs.size=s.heap.objs.size+1:=Heap.size_push _ _
 have ne1:l≠(s.heap.push (gY b)).objs.size:=fun z=>by rw[sz]at z;exact Nat.lt_irrefl _ (Nat.lt_trans (z▸ll) (Nat.lt_succ_self _))
 have out:s.heap.objs.size∉ [(s.heap.push (gY b)).objs.size,l]:=by
  intro z;rcases List.mem_cons.mp z with z|z
  ·rw[sz]at z;exact Nat.ne_of_lt (Nat.lt_succ_self _) z
  ·exact Nat.ne_of_gt ll (List.mem_singleton.mp z)
 have W:=(Walks.list (prog:=P) (w:=w) (A:=A.in1.in1) (by simp[hh]) _ l ne1 its).toS;refine ug W s.heap.objs.size out (fun i=>zs.getD i Str.empty) (fun i v z=>xf r i v (by rw[Array.getElem?_toList];exact z)) few its.size 0 _ (Nat.zero_add _) ?_ ?_ ?_
 ·exact⟨⟨_,Heap.get?_push_size _ rfl,rfl,rfl⟩,Yc.push _⟩
 ·exact SetOf_congr ((setObjOf_fresh (knd:=strKind P w) b).setOf (Heap.get?_push_of_some _ Qu) (by decide)) (fun _=>rfl) rfl
 ·rintro⟨h',g',d',t',o'⟩ mv so
  obtain rfl:g'=s.gens:=mv.gens;obtain rfl:d'=s.drawn:=mv.drawn;obtain rfl:o'=s.os:=mv.os;apply wpAny_pure;refine wpAny_pure ⟨rfl,h',t',rfl,so,fun x o hx e=>mv.heap x o (fun z=>?_) (Heap.get?_push_of_some _ (Heap.get?_push_of_some _ e))⟩;rcases List.mem_cons.mp z with z|z
  ·exact Nat.ne_of_lt hx z
  ·have z:=List.mem_singleton.mp z;rw[sz]at z;exact Nat.ne_of_lt (Nat.lt_succ_of_lt hx) z
theorem rC{l:Addr}{its:Array Value}{zs:List Str}{Q:Value→Shared→Prop}(hh:A.handled=none)(hl:s.heap.IsList l its)(r:aW (zs.map V.str) its.toList)(few:its.size+1<scanBound)
  (k:∀(h':Heap)(tk:Nat),tH P w s s.heap.objs.size zs its.size h'→Q (.ref s.heap.objs.size) { s with heap:=h',toks:=tk }):wpAny (model P w) A (call (.type "set") [.ref l]) Q E s:=by
 have C:=F.called_set;obtain⟨_,_,c1⟩:=C.mro;have c2:=C.made;have c3:=C.sub;have c4:=C.notType;have c5:=C.canCreate;have c6:=F.typeCall_set_1 (.ref l);have c7:=C.init.lookup;have c8:=C.init.bind (.ref s.heap.objs.size);apply wpAny_call;apply codeAny_of_tree;show wpAny _ _ (callAny (.type "set") ⟨[.ref l],[]⟩) _ _ _;apply wpAny_pure;refine And.intro (Code.quiet_builtin _ (by decide+kernel))<|codeAny_builtin F.entry_type_call ?_
 rw[Around.under_plain (weight_type_call_type "set" [.ref l] []) rfl]
 repeat any_goals first|assumption|wp_step
 refine codeAny_mono (R:=wants (fun o s1=>∃b:Bool,o=.ref s.heap.objs.size∧s1= { s with heap:=s.heap.push (gY b) }) E) (code_set_new_1 _ fun b=>⟨b,rfl,rfl⟩) fun res s1 z=>?_;rcases res with e|(o|_|_|_)<;>first|exact z|exact z.elim|skip
 obtain⟨b,rfl,rfl⟩:=z;have isS:Shared.TypeIs { s with heap:=s.heap.push (gY b) } (.ref s.heap.objs.size) "set":=⟨_,Heap.get?_push_size _ rfl,rfl⟩
 repeat any_goals first|assumption|wp_step
 refine codeAny_mono (Av (E:=E) (by simp[hh]) hl r few) fun WT s2 z2=>?_;rcases WT with e|(o|_|_|_)<;>first|exact z2|exact z2.elim|skip
 obtain⟨rfl,h',tk,rfl,fin⟩:=z2
 repeat any_goals first|assumption|wp_step
 exact k h' tk fin
end
section
variable{X:Cx}{e:Expr}{te:TE}{p1 p2 pos pos2:Pos}
theorem zg(hc:X.calm=true)(g1:Gl X "len")(m1:X.mg "len"=none)(g2:Gl X "set")(m2:X.mg "set"=none)(he:PE X e te)
  (hs:starEach [e] X.env=(false,eval e X.env)::starEach [] X.env:=by rfl) (VB:starEach [.Call (.Name "set" p2) [e] [] pos2] X.env=(false,eval (.Call (.Name "set" p2) [e] [] pos2) X.env)::starEach [] X.env:=by rfl)
  (hp:(backTo pos (starEach [] X.env)).any (·.1)=false:=by rfl) (VD:(backTo pos2 (starEach [] X.env)).any (·.1)=false:=by rfl):
  PE X (.Call (.Name "len" p1) [.Call (.Name "set" p2) [e] [] pos2] [] pos) (fun σ H Q=>te σ H fun x H1=>∃(a:Addr)(zs:List Str),x=.ref a∧Og X.K H1 a (zs.map V.str)∧zs.length+1<scanBound∧Q (.int ((bM (fun i=>zs.getD i Str.empty) zs.length).length:Nat)) H1):=by
 intro pins s σ H Q I h;refine wpAny_Call_Name_kw (gQ I g1 m1 PySem.boot_len ?_ (by decide) (by decide));refine PyProof.Rows.callWith_builtin1 ?_ VB hp;rw[VB];show wpAny _ _ (spliced ((false,eval (.Call (.Name "set" p2) [e] [] pos2) X.env)::backTo pos (starEach [] X.env))) _ _ s;refine Calls.spliced_cons ?_;have hv:bootBuiltins "set"=some (.type "set"):=by decide+kernel
 refine wpAny_Call_Name_kw (gQ I g2 m2 hv ?_ (by decide) (by decide));refine callWith_type1 ?_ hs VD;have ha:=rY he vS hs
 refine I_ (ha pos2 pins s σ H (fun vs H1=>match vs with
  |[x]=>∃(a:Addr)(zs:List Str),x=.ref a∧Og X.K H1 a (zs.map V.str)∧zs.length+1<scanBound∧Q (.int ((bM (fun i=>zs.getD i Str.empty) zs.length).length:Nat)) H1
  |_=>False) I h) fun us s1 ⟨vs,H1,I1,rv,z⟩=>?_
 dsimp only at z
 split at z
 rotate_left
 ·exact z.elim
 rename_i x;obtain⟨a,zs,e1,sq,few,q⟩:=z;subst e1;obtain⟨u,rfl,ru⟩:=rv.one
 cases ru
 obtain⟨its,ri,pl,hz⟩:=I1.list sq;have ln:its.length=zs.length:=by rw[← ri.length,List.length_map]
 refine rC (I1.ok.hd hc) pl.isList (by simpa using ri) (by simpa[ln]using few) fun h' tk fin=>?_;obtain⟨so,kp⟩:=fin;have I2:Inv X pins σ H1 { s1 with heap:=h',toks:=tk }:=I1.kept fun b o z=>kp b o (Heap.lt_size z) z;refine Calls.spliced_nil ?_;obtain⟨o,go,oo⟩:=so.objOf;obtain⟨o1,es,ep,t,o2,_,_,o3,o4⟩:=oo;have lz:=mI (fun i=>zs.getD i Str.empty) its.toArray.size;have sz:its.toArray.size=zs.length:=by simp[ln]
 have sb:scanBound<2 ^ 63:=by decide
 refine call_len_set go o1 o2 o4 (by omega) ?_;refine⟨.int _,H1,I2.tok _,⟨_,rfl⟩,?_⟩;rw[o3,sz];exact q
end
end L2
namespace L3
open PySem PySem.Spec PyProof.Rows L2
theorem Ay(f:Nat→List Nat):∀n,bM (fun i=>S (f i)) n=(bM f n).map S
 |0=>rfl
 |n+1=>by
  show nB (bM (fun i=>S (f i)) n) (S (f n))=(nB (bM f n) (f n)).map S;rw[Ay f n];unfold nB
  have:S (f n)∈(bM f n).map S↔f n∈bM f n:=by
   constructor
   ·intro h;obtain⟨x,hx,e⟩:=List.mem_map.mp h;rw[← yC e];exact hx
   ·exact fun h=>List.mem_map.mpr ⟨_,h,rfl⟩
  by_cases q:f n∈bM f n
  ·rw[if_pos q,if_pos (this.mpr q)]
  ·rw[if_neg q,if_neg (fun z=>q (this.mp z)),List.map_append];rfl
def mY(ls:List (List Nat)):Nat:=(bM (fun i=>ls.getD i []) ls.length).length
theorem Aw(ls:List (List Nat)):(bM (fun i=>(ls.map S).getD i Str.empty) (ls.map S).length).length=mY ls:=by
 have:(fun i=>(ls.map S).getD i Str.empty)=fun i=>S (ls.getD i []):=by
  funext i
  rw[List.getD_eq_getElem?_getD,List.getD_eq_getElem?_getD,List.getElem?_map]
  cases ls[i]? <;>rfl
 rw[this,List.length_map,Ay,List.length_map];rfl
def jE(p:PV)(h:List PO):Res PV:=match Tp h p with
 |some xs=>match cG xs with
  |some ls=>if ls.length+1<scanBound then .ok (.int (mY ls:Nat)) h else .bad
  |none=>.bad
 |none=>.bad
section
variable{X:Cx}{T:Tab}{Ew:XK}{e:Expr}{f:Ex}{p1 p2 pos pos2:Pos}
theorem kQ{K:W.Frag}{F:Hp}{m:List Addr}:∀{ls:List (List Nat)}{vs:List V},ak K T F m (ls.map PV.str) vs→vs=(ls.map S).map V.str
 |[],_,.nil=>rfl
 |l::r,_,.cons a b=>by
  cases a
  rw[kQ b];rfl
theorem yU(g1:Gl X "len")(m1:X.mg "len"=none)(g2:Gl X "set")(m2:X.mg "set"=none)(he:RE X T Ew e f)(hc:X.calm=true:=by rfl)
  (hs:starEach [e] X.env=(false,eval e X.env)::starEach [] X.env:=by rfl) (VB:starEach [.Call (.Name "set" p2) [e] [] pos2] X.env=(false,eval (.Call (.Name "set" p2) [e] [] pos2) X.env)::starEach [] X.env:=by rfl)
  (hp:(backTo pos (starEach [] X.env)).any (·.1)=false:=by rfl) (VD:(backTo pos2 (starEach [] X.env)).any (·.1)=false:=by rfl):
  RE X T Ew (.Call (.Name "len" p1) [.Call (.Name "set" p2) [e] [] pos2] [] pos) (c1 jE f):=by with_unfolding_all
 refine PE.imp (zg hc g1 m1 g2 m2 he hs VB hp VD) ?_;rintro σ H Q ⟨F,m,ρ,h,R,p⟩;refine⟨F,m,ρ,h,R,(aD.bind p).mono ?_⟩;rintro x H1 ⟨F1,m1,h1,p1,s1,R1,r1,w⟩
 unfold jE at w
 cases e1:Tp h1 p1 with
 |none=>rw[e1]at w;exact w.elim
 |some ys=>
  rw[e1]at w
  cases e2:cG ys with
  |none=>simp only[e2]at w;exact w.elim
  |some ls=>
   simp only[e2]at w
   by_cases q:ls.length+1<scanBound
   ·rw[if_pos q]at w;obtain⟨a,vs,rfl,ea,ra⟩:=eU R1 r1 e1;have em:=gj e2;subst em;have ev:=kQ ra;subst ev;refine⟨a,ls.map S,rfl,ea,by rw[List.length_map];exact q,?_⟩;rw[Aw];exact aQ w R1 (.int _)
   ·rw[if_neg q]at w;exact w.elim
end
end L3
namespace L2
open PySem PySem.Spec PyProof.Rows
end L2
namespace L3
open PySem PySem.Spec PyProof.Rows L2
section
variable{X:Cx}{T:Tab}{Ew:XK}{pos T7:Pos}
theorem vG{elt iter:Expr}{x y:Str}{px py:Pos}{ifs:List Expr}{scope:Scope}{it:Ax}{tt:Tx}{te:Ex}{M:List Str}{iy:Nat}(g8:List Nat)(O7:X.calm=true)(S:eA X.N X.env.scope scope g8 x M)
  (hi:RI X T Ew (.Name x px) iter it) (ht:∀cl C ex s H,Xx (cZ X M scope cl C ex s H) T Ew ifs tt) (he:∀cl C ex s H,RE (cZ X M scope cl C ex s H) T Ew elt te)
  (Yu:X.N.Nodup) (hy:X.N[iy]? =some y) (Xr:X.env.scope.names.lookup y=some .local) (Yh:swapsWith (.ListComp elt [⟨.Name x px,iter,ifs,0⟩] scope pos) (some (.Name y py)) T7.line X.env=pure true)
  (hs:∀y,foldedSetIterable iter X.env y=pure y:=by intro _;rfl):RS X T Ew (.Assign [.Name y py] (.ListComp elt [⟨.Name x px,iter,ifs,0⟩] scope pos) T7) (aI iy (cN SJ (eD g8 it tt te))):=by with_unfolding_all exact(
 PS.imp (oM (tt:=wT X T Ew tt) (te:=wE X T Ew te) g8 O7 S hi ht he Yu hy Xr Yh hs) fun D σ H ⟨F,m,ρ,h,R,p⟩=>pE (fun F m h H ps vs R r w D hD=>fC w R r D hD)
  ⟨F,m,ρ,h,R,(fL p).mono (by rintro v H1 ⟨F1,m1,h1,q,s1,R1,r1,w1⟩;exact w1 F1 m1 H1 _ .refl ⟨R1,(s1.env R.env).set iy r1⟩)⟩)
theorem uj{elt iter:Expr}{x y:Str}{px py:Pos}{ifs:List Expr}{scope:Scope}{it:Ax}{tt:Tx}{te:Ex}{M:List Str}{iy:Nat}(g8:List Nat)(O7:X.calm=true)(S:eA X.N X.env.scope scope g8 x M)
  (hi:RI X T Ew (.Name x px) iter it) (ht:∀cl C ex s H,Xx (cZ X M scope cl C ex s H) T Ew ifs tt) (he:∀cl C ex s H,RE (cZ X M scope cl C ex s H) T Ew elt te)
  (Yu:X.N.Nodup) (hy:X.N[iy]? =some y) (Xr:X.env.scope.names.lookup y=some .local) (Yh:swapsWith (.ListComp elt [⟨.Name x px,iter,ifs,0⟩] scope pos) (some (.Name y py)) T7.line X.env=pure true)
  (hs:∀y,foldedSetIterable iter X.env y=pure y:=by intro _;rfl):RS X T Ew (.Assign [.Name y py] (.ListComp elt [⟨.Name x px,iter,ifs,0⟩] scope pos) T7) (aI iy (cN Er (eD g8 it tt te))):=by with_unfolding_all exact(
 PS.imp (oM (tt:=wT X T Ew tt) (te:=wE X T Ew te) g8 O7 S hi ht he Yu hy Xr Yh hs) fun D σ H ⟨F,m,ρ,h,R,p⟩=>pE (fun F m h H ps vs R r w D hD=>oO w R r D hD)
  ⟨F,m,ρ,h,R,(fL p).mono (by rintro v H1 ⟨F1,m1,h1,q,s1,R1,r1,w1⟩;exact w1 F1 m1 H1 _ .refl ⟨R1,(s1.env R.env).set iy r1⟩)⟩)
def iq(v o i:PV)(ρ:Ev)(h:List PO):SR:=match mT h o,i with
 |some (n,xs),.int k=>match TY xs.length k with
  |some j=>.nx ρ (h.set n (.lst (xs.set j v)))
  |none=>.bad
 |_,_=>.bad
def jc(fo fi fv:Ex):Sx:=fun ρ h=>dv (fv ρ h) fun v h1=>dv (fo ρ h1) fun o h2=>dv (fi ρ h2) fun i h3=>iq v o i ρ h3
theorem ui{o i v:Expr}{fo fi fv:Ex}{px:Pos}(ho:RE X T Ew o fo)(hi:RE X T Ew i fi)(hv:RE X T Ew v fv)
  (ha:∀u,assign (.Subscript o i px) X.env u=(do
   let ov ← holding [u] (eval o X.env)
   let iv ← holding [u,ov] (eval i X.env)
   standAt px
   holding [u,ov,iv] (setItem ov iv u)
   release [u,ov,iv] []):=by intro _;rfl)
  (hs:swapsWithSole [.Subscript o i px] v pos.line X.env=pure false:=by rfl) (hw:swappedStores [.Subscript o i px] v X.env=pure none:=by rfl)
  (h1:(assignEach [.Subscript o i px] X.env).map (·.2)=[assign (.Subscript o i px) X.env]:=by rfl):RS X T Ew (.Assign [.Subscript o i px] v pos) (jc fo fi fv):=by with_unfolding_all
 refine PS.imp (AZ hv (Hm ho hi Au ha) hs hw h1) ?_;rintro D σ H ⟨F,m,ρ,h,R,p⟩;refine⟨F,m,ρ,h,R,(fL p).mono ?_⟩;rintro v H1 ⟨F1,m1,h1,pv,s1,R1,r1,w1⟩
 refine⟨F1,m1,ρ,h1,R.of s1 R1,(fL w1).mono ?_⟩;rintro o H2 ⟨F2,m2,h2,po,s2,R2,r2,w2⟩;refine⟨F2,m2,ρ,h2,(R.of s1 R1).of s2 R2,(fL w2).mono ?_⟩;rintro i H3 ⟨F3,m3,h3,pi,s3,R3,r3,w3⟩;have RS3:=((R.of s1 R1).of s2 R2).of s3 R3;unfold iq at w3
 split at w3
 ·rename_i n xs k el
  split at w3
  ·rename_i j hj;obtain⟨a,vs,rfl,em,hF,hH,rr⟩:=qy R3 (s3.rep r2) el
   cases r3
   have rv:=s3.rep (s2.rep r1);refine⟨a,vs,k,j,rfl,rfl,hH,by rw[← rr.length];exact hj,?_⟩;obtain⟨st,R'⟩:=R3.upd (o':=.lst (xs.set j pv)) (ho:=.lst (vs.set j v)) em hF ⟨_,hH⟩ ⟨hF,_,aG,rr.set rv j⟩;exact w3 F3 m3 _ _ st ⟨R',st.env RS3.env⟩
  ·exact w3.elim
 ·exact w3.elim
end
noncomputable def rE(C:Nat)(as:Ax):Sx:=fun ρ h=>match as ρ h with
 |.ok qs h1=>if qs.length≤sizeLine then .exc (.cls C) h1 else .bad
 |.exc e h1=>.exc e h1
 |.bad=>.bad
theorem AE{X:Cx}{T:Tab}{E:XK}{x:Str}{C:Nat}{Ca:Addr}{np Oe pos:Pos}{e0:Expr}{es:List Expr}{fs:Ax}{Sv Xv:List Value}{B Bn NZ nid Rg inN:String}
  (Fn:ExcBaseFacts Bn NZ inN Xv) (Wr:Sv.contains (.type Bn)=true) (FB:ExcBaseFacts B nid Rg Sv) (ok:W.excIn X.K Ca Sv NZ=true) (hC:T C=some Ca) (hg:Gl X x) (hm:X.mg x=some (.ref Ca)) (l:Lv X E)
  (ha:RA X T E (e0::es) fs) (hc:X.calm=true:=by rfl) (Ql:nD0 x:=by decide) (he:starEach (e0::es) X.env=(false,eval e0 X.env)::starEach es X.env:=by rfl) (Oc:(backTo Oe (starEach es X.env)).any (·.1)=false:=by rfl):
  RS X T E (.Raise (some (.Call (.Name x np) (e0::es) [] Oe)) none pos) (rE C fs):=by with_unfolding_all
 refine PS.imp (AY Fn Wr FB ok hg hm hc l ha Ql he Oc) ?_;rintro D σ H ⟨F,m,ρ,h,R,p⟩;refine⟨F,m,ρ,h,R,?_⟩
 unfold rE at p
 cases z:fs ρ h with
 |ok qs h1=>
  rw[z]at p;dsimp only at p
  split at p
  ·rename_i hl;intro F' m' H' vs s R' r;refine⟨by rw[← r.length];exact hl,?_⟩;exact p F' m' H' (.ref Ca) none s R' ⟨Ca,hC,rfl,rfl⟩
  ·exact p.elim
 |exc e h1=>rw[z]at p;exact p
 |bad=>rw[z]at p;exact p
noncomputable def vN(C:Nat):Res (List PV)→SR
 |.ok [v] h1=>.exc (.Qt C v) h1
 |.exc e h1=>.exc e h1
 |_=>.bad
def ir(z:Bool)(C:Nat)(as:Ax):Sx:=if z=true then fun ρ h=>vN C (as ρ h)else fun _ _=>.bad
theorem qh{X:Cx}{T:Tab}{E:XK}{x:Str}{C:Nat}{Ca fI:Addr}{np Oe pos:Pos}{e:Expr}{fs:Ax}{k:Nat}{fd:FuncData}{ps:List Str}(G:cP X.prog X.w X.K X.mg X.base QT 1 fI fd ps (vC X.K "at"))(c:Wx X.K Ca fI "at")(hb:eF X.K fd ps [])(hr:bZ k X.A)(hC:T C=some Ca)(hg:Gl X x)(hm:X.mg x=some (.ref Ca))(l:Lv X E)
  (ha:RA X T E [e] fs) (hl:ps.length=2:=by rfl) (hc:X.calm=true:=by rfl) (Ql:nD0 x:=by decide) (he:starEach [e] X.env= [(false,eval e X.env)]:=by rfl) (Oc:(backTo Oe (starEach [] X.env)).any (·.1)=false:=by rfl):
  RS X T E (.Raise (some (.Call (.Name x np) [e] [] Oe)) none pos) (ir (Nat.ble 2 k) C fs):=by with_unfolding_all
 by_cases hz:Nat.ble 2 k=true
 ·refine PS.imp (yW G c hb hl (hr.mono (Nat.le_of_ble_eq_true hz)) hg hm hc l ha Ql he Oc) ?_;rintro D σ H ⟨F,m,ρ,h,R,p⟩;refine⟨F,m,ρ,h,R,?_⟩
  unfold ir at p;rw[if_pos hz]at p
  cases z:fs ρ h with
  |ok qs h1=>
   rw[z]at p;intro F' m' H' vs s R' r
   cases qs with
   |nil=>exact p.elim
   |cons v more=>
    cases more with
    |cons _ _=>exact p.elim
    |nil=>obtain⟨y,rfl,ry⟩:=r.one;refine⟨y,rfl,c,fun dx nd=>?_⟩;obtain⟨s2,R2⟩:=aX.lay (o:=Uj dx "at" y) R' nd;exact p _ m' _ (.ref Ca) (some dx) (s.trans s2) R2 ⟨Ca,dx,y,hC,rfl,rfl,aG,s2.rep ry⟩
  |exc e h1=>rw[z]at p;exact p
  |bad=>rw[z]at p;exact p
 ·intro pins s σ H D I ⟨F,m,ρ,h,R,p⟩;unfold ir at p;rw[if_neg hz]at p;exact p.elim
noncomputable def CB:PV→Option (Nat×PV)
 |.cls C=>some (C,.exc C)
 |.Qt C v=>some (C,.Qt C v)
 |_=>none
def DB(cat:Nat→Bool)(g:Sx)(i n:Nat)(gs:Sx):Sx:=fun ρ h=>match g ρ h with
 |.exc e h1=>match CB e with
  |some (C,p)=>if cat C=true then(match gs ((List.replicate n none).set i (some p)) h1 with
   |.rt v h2=>.rt v h2
   |_=>.bad)else .bad
  |none=>.bad
 |r=>r
theorem CA{K:W.Frag}{T:Tab}{F:Hp}{m:List Addr}{e p:PV}{C:Nat}{cls:Value}{dx:Option Addr}(h:kA K T F m e cls dx)(x:CB e=some (C,p)):∃Ca,T C=some Ca∧cls=.ref Ca:=by
 unfold kA at h
 split at h
 ·cases x;obtain⟨Ca,h1,h2,_⟩:=h;exact⟨Ca,h1,h2⟩
 ·cases x;obtain⟨Ca,_,_,h1,h2,_⟩:=h;exact⟨Ca,h1,h2⟩
 ·exact h.elim
theorem Cz{K:W.Frag}{T:Tab}{F F':Hp}{m:List Addr}{e p:PV}{C:Nat}{cls:Value}{dx:Option Addr}{a:Addr}(h:kA K T F m e cls dx)(x:CB e=some (C,p))(s:cD F F')(ea:F' a=some (mR a cls dx)):aF K T F' m p (.ref a):=by
 unfold kA at h
 split at h
 ·cases x;obtain⟨Ca,h1,rfl,rfl⟩:=h;exact .exc h1 ea
 ·cases x;obtain⟨Ca,d,y,h1,rfl,rfl,h4,h5⟩:=h;exact .Qt h1 ea (s _ _ h4) (h5.mono s fun _ _ z=>z)
 ·exact h.elim
theorem GM{X:Cx}{T:Tab}{Ew:XK}{cat:Nat→Bool}{body suite:List Stmt}{b0:Stmt}{g gs:Sx}{t n:Str}{Ta:Addr}{i:Nat}{tp W4 pos:Pos}(aaE:∀C Ca,cat C=true→T C=some Ca→PySem.W.exmOne X.K (.ref Ca) (.ref Ta)=some true)
  (hb:∀pn W Eb,eQ (Rb X.prog X.w) (X.tried pn W) Eb→Tr (X.tried pn W) T Eb body g) (hs:∀pn a,Tr (X.suite pn a) T (fun _ _ _=>False) (b0::suite) gs)
  (hN:X.N.Nodup) (hi:X.N[i]? =some n) (hn:X.env.scope.names.lookup n=some .local) (hg:Gl X t) (hm:X.mg t=some (.ref Ta)) (stk:X.stack=X.env::X.outer:=by rfl) (hf:X.env.frame=some X.env.locals:=by rfl) (Ql:(t==("__debug__":Str))=false:=by decide):
  RS X T Ew (.Try body [.ExceptHandler (some (.Name t tp)) (some n) (b0::suite) W4] [] [] pos) (DB cat g i X.N.length gs):=by with_unfolding_all
 refine PS.imp (He (tb:=fun Eb=>wS X T Eb g) (ts:=wS X T (fun _ _ _=>False) gs) stk hf hb hs hN hi hn hg hm Ql) ?_;rintro D σ H ⟨F,m,ρ,h,R,p⟩;refine⟨F,m,ρ,h,R,?_⟩
 unfold DB at p
 cases z:g ρ h with
 |nx ρ1 h1=>rw[z]at p;exact p
 |rt v h1=>rw[z]at p;exact p
 |bk ρ1 h1=>rw[z]at p;exact p
 |ct ρ1 h1=>rw[z]at p;exact p
 |bad=>rw[z]at p;exact p
 |exc e h1=>
  rw[z]at p;dsimp only at p
  cases ev:CB e with
  |none=>rw[ev]at p;exact p.elim
  |some cp=>
   obtain⟨C,pe⟩:=cp;rw[ev]at p;dsimp only at p
   split at p
   ·rename_i hC;intro F' m' H' cls dx s R' rx;obtain⟨Ca,c,rfl⟩:=CA rx ev;refine⟨aaE C Ca hC c,fun a σ' hl na=>?_⟩;obtain⟨s2,R2⟩:=aX.lay (o:=mR a (.ref Ca) dx) R' na;have re:aF X.K T (upd F' a (mR a (.ref Ca) dx)) m' pe (.ref a):=Cz rx ev s2.fz aG;refine⟨_,m',(List.replicate X.N.length none).set i (some pe),h1,⟨R2,by simp[hl],fun j q ej=>?_⟩,?_⟩
    ·by_cases hj:i=j
     ·subst hj
      rw[List.getElem?_set_self (by
       rcases Nat.lt_or_ge i (List.replicate X.N.length (none:Option PV)).length with y|y
       ·exact y
       ·rw[List.getElem?_eq_none (by simpa using y)]at ej;cases ej)]at ej
      cases ej
      have Uu:i<σ'.length:=by rw[hl];exact(List.getElem?_eq_some_iff.mp hi).1
      exact⟨_,List.getElem?_set_self Uu,re⟩
     ·rw[List.getElem?_set_ne hj,List.getElem?_replicate]at ej
      split at ej<;>cases ej
    ·cases y:gs ((List.replicate X.N.length none).set i (some pe)) h1 with
     |rt v h2=>rw[y]at p;exact fun F2 m2 H2 x t2 R3 rx=>p F2 m2 H2 x ((s.trans s2).trans t2) R3 rx
     |nx _ _=>rw[y]at p;exact p.elim
     |bk _ _=>rw[y]at p;exact p.elim
     |ct _ _=>rw[y]at p;exact p.elim
     |exc _ _=>rw[y]at p;exact p.elim
     |bad=>rw[y]at p;exact p.elim
   ·exact p.elim
section
variable{X:Cx}{T:Tab}{Ew:XK}{a b e:Expr}{es:List Expr}{fa fb:Ex}{fs:Ax}{pos:Pos}
def jW(p q:PV)(h:List PO):Res PV:=match Tw h p,Tw h q with
 |some a,some b=>if a.length+b.length≤sizeLine then .ok (.ref h.length) (h++ [.lst (a++b)])else .bad
 |_,_=>.bad
theorem yZ{K:W.Frag}{T:Tab}:et K T (xw K) jW:=by
 intro F m h H x y p q Q Ew R rp rq w;unfold jW at w
 split at w
 ·rename_i a b e1 e2
  split at w
  ·rename_i hz;obtain⟨pa,va,rfl,ea,ra⟩:=jG R rp e1;obtain⟨pb,vb,rfl,eb,rb⟩:=jG R rq e2;exact .inr (.inr (.inr (.inr ⟨pa,pb,va,vb,rfl,rfl,ea,eb,by rw[← ra.length,← rb.length];exact hz,oO w R (ra.append rb)⟩)))
  ·exact w.elim
 ·exact w.elim
theorem DM(ha:RE X T Ew a fa)(hb:RE X T Ew b fb):RE X T Ew (.BinOp a .Add b pos) (c2 jW fa fb):=by with_unfolding_all exact(
  oG xK yZ ha hb)
end
noncomputable def isB(k:Bool):Value→Bool
 |.bool b=>b==k
 |_=>false
structure tK(K:W.Frag):Prop where
 get:W.specialIn K (.builtin "object.__class__") "__get__"=some (some (.builtin "getset_descriptor.__get__"))
 tk:W.takesIn K (.builtin "object.__class__")=some true
structure wP(K:W.Frag)(C:Addr):Prop where
 at_:W.findIn K (.ref C) "__class__"=some (some (.builtin "object.__class__"))
 mo:W.mroIn K C (.type "object")=some true
 is_:(W.clsIn K C).isSome=true
theorem Ci{K:W.Frag}{a C:Addr}(g:tK K)(c:wP K C)(x:tF K C):W.KitX K (.ref a) (.ref C) (fun h=>∃o vs,h.get? a=some o∧o.cls=.ref C∧o.data=.fields vs):=by
 obtain⟨cd,RK⟩:=Option.isSome_iff_exists.mp c.is_
 obtain⟨oc,od,Rz,hlk⟩:∃oc od Rz,K.lookup C=some ⟨oc,od,.cls cd,Rz⟩:=by
  unfold W.clsIn at RK
  split at RK
  ·rename_i c1 d1 cd1 s1 z;cases RK;exact⟨_,_,_,z⟩
  ·cases RK
 have ty:∀(M:Model)(h:Heap),(∃o vs,h.get? a=some o∧o.cls=.ref C∧o.data=.fields vs)→W.Looks M h (typeOf (.ref a)) (.ref C):=(by rintro M h ⟨o,vs,h1,h2,_⟩;exact h2▸(W.Looks.ld h1).andThen .now);refine⟨fun M h _ p=>ty M h p,fun M h Px _=>?_,fun h tp dd its n sl Px htp=>?_,fun{prog w A E Q s} Px p q=>?_⟩
 ·intro A' Q' E' s' k z;unfold isType loadHead;exact wpAny_bind (wpAny_loadPart (k _ _ (Px _ _ hlk)) (wpAny_pure z))
 ·refine Bool.eq_false_iff.mpr fun z=>?_
  cases beq_iff_eq.mp z
  have:=(Px _ _ hlk).symm.trans htp
  cases this
 ·exact Dp x Px (ty _ _ p) c.at_ g.get g.tk c.mo q
inductive ZD(K:W.Frag)(H:Hp):V→Addr→Prop where
 |ins {a C dx:Addr} {fs:List (Str×V)} (e:H a=some (.ins C dx fs)) (cl:Cls K C):ZD K H (.ref a) C
 |exc {a C:Addr} {dx:Option Addr} (e:H a=some (mR a (.ref C) dx)) (x:tF K C):ZD K H (.ref a) C
noncomputable def Zr:V→Option Value
 |.ref D=>some (.ref D)
 |.ty n=>some (.type n)
 |_=>none
theorem CM{X:Cx}(g:tK X.K):dh X (.builtin "isinstance") (fun xs H Q=>∃x c t C b,xs= [x,c]∧Zr c=some t∧ZD X.K H x C∧wP X.K C∧W.kitOne X.K (.ref C) t=some b∧Q (.bl b) H):=by
 intro pins s σ H xs us Q I r h;obtain⟨x,c,t,C,b,rfl,ec,co,kc,e,q⟩:=h;obtain⟨u,w',rfl,ru,Uo⟩:=Af r
 have ew:w'=t:=by
  unfold Zr at ec
  split at ec
  ·cases ec;exact Uo
  ·cases ec;exact Uo
  ·cases ec
 subst ew;have fin:∀tk,EP X pins σ Q (.bool b) { s with toks:=tk }:=fun tk=>⟨.bl b,H,I.tok tk,rfl,q⟩
 cases co with
 |ins ea cl=>
  cases ru
  obtain⟨mA,O,_⟩:=EG I.hok ea;obtain⟨od,J,_⟩:=O.look;exact W.kia_one (W.kitx_own (cl.get _) cl.hd kc.at_ g.get g.tk kc.mo) I.RJ J e (fun z=>nomatch z) fin
 |@exc a _ dx ea xc=>
  cases ru
  obtain⟨⟨po,pv,p1,p2,p3,_⟩,_,_⟩:=(show bE X.prog X.w H s.heap a (mR a (.ref C) dx)from I.hok a _ ea)
  exact W.kia_one (Ci g kc xc) I.RJ ⟨po,pv,p1,p2,p3⟩ e (fun z=>nomatch z) fin
structure Dj(K:W.Frag)(T:Tab)(kd:Nat→Option Bool)(sC:Nat→Nat→Option Bool)(sT:Nat→String→Option Bool):Prop where
 g:tK K
 ins:∀C a,kd C=some false→T C=some a→Cls K a∧wP K a
 exc:∀C a,kd C=some true→T C=some a→tF K a∧wP K a
 cls:∀C D a b r,sC C D=some r→T C=some a→T D=some b→W.kitOne K (.ref a) (.ref b)=some r
 ty:∀C t a r,sT C t=some r→T C=some a→W.kitOne K (.ref a) (.type t)=some r
noncomputable def xV:List (Nat×Nat×Bool)→Nat→Nat→Option Bool
 |[],_,_=>none
 |(a,b,r)::l,C,D=>if a=C∧b=D then some r else xV l C D
def Kn(P:Nat→Nat→Bool→Prop):List (Nat×Nat×Bool)→Prop
 |[]=>True
 |(a,b,r)::l=>P a b r∧Kn P l
theorem qx{P:Nat→Nat→Bool→Prop}:∀{l:List (Nat×Nat×Bool)}{C D:Nat}{r:Bool},Kn P l→xV l C D=some r→P C D r
 |[],_,_,_,_,e=>by cases e
 |(a,b,q)::l,C,D,r,h,e=>by
  unfold xV at e
  split at e
  ·rename_i z;obtain⟨rfl,rfl⟩:=z
   cases e
   exact h.1
  ·exact qx h.2 e
noncomputable def FH:PV→Option (Nat×Bool)
 |.ins C _=>some (C,false)
 |.exc C=>some (C,true)
 |.Qt C _=>some (C,true)
 |_=>none
noncomputable def IS(sC:Nat→Nat→Option Bool)(sT:Nat→String→Option Bool)(C:Nat):PV→Option Bool
 |.cls D=>sC C D
 |.ty t=>sT C t
 |_=>none
def nh(kd:Nat→Option Bool)(sC:Nat→Nat→Option Bool)(sT:Nat→String→Option Bool)(ps:List PV)(h:List PO):Res PV:=match ps with
 |[p,q]=>match FH p with
  |some (C,b)=>if kd C=some b then(match IS sC sT C q with
   |some r=>.ok (.bl r) h
   |none=>.bad)else .bad
  |none=>.bad
 |_=>.bad
theorem Be{K:W.Frag}{T:Tab}{kd:Nat→Option Bool}{sC:Nat→Nat→Option Bool}{sT:Nat→String→Option Bool}(tb:Dj K T kd sC sT):
  pM K T (fun xs H Q=>∃x c t C b,xs= [x,c]∧Zr c=some t∧ZD K H x C∧wP K C∧W.kitOne K (.ref C) t=some b∧Q (.bl b) H) (nh kd sC sT):=by
 intro F m h H xs ps Q Ew R rs w;unfold nh at w
 split at w
 ·rename_i p q;obtain⟨x,y,rfl,rx,ry⟩:=rs.two
  split at w
  ·rename_i C b ek
   split at w
   ·rename_i hk
    split at w
    ·rename_i r er;have hq:Q (.bl r) H:=aQ w R (.bl _)
     have cy:∀{Ca},T C=some Ca→∃t,Zr y=some t∧W.kitOne K (.ref Ca) t=some r:=fun hC=>by
      unfold IS at er
      split at er
      ·cases ry with|cls hD=>exact⟨_,rfl,tb.cls _ _ _ _ _ er hC hD⟩
      ·cases ry;exact⟨_,rfl,tb.ty _ _ _ _ er hC⟩
      ·cases er
     unfold FH at ek
     split at ek
     ·cases ek
      cases rx with
      |@ins _ _ a Ca dx Zn c e d kk rr=>obtain⟨cl,kc⟩:=tb.ins _ _ hk c;obtain⟨t,e1,e2⟩:=cy c;exact⟨_,_,t,Ca,r,rfl,e1,.ins (R.same _ _ e) cl,kc,e2,hq⟩
     ·cases ek
      cases rx with
      |exc c e=>obtain⟨cl,kc⟩:=tb.exc _ _ hk c;obtain⟨t,e1,e2⟩:=cy c;exact⟨_,_,t,_,r,rfl,e1,.exc (R.same _ _ e) cl,kc,e2,hq⟩
     ·cases ek
      cases rx with
      |Qt c e d rr=>obtain⟨cl,kc⟩:=tb.exc _ _ hk c;obtain⟨t,e1,e2⟩:=cy c;exact⟨_,_,t,_,r,rfl,e1,.exc (R.same _ _ e) cl,kc,e2,hq⟩
     ·cases ek
    ·exact w.elim
   ·exact w.elim
  ·exact w.elim
 ·exact w.elim
section
variable{X:Cx}{T:Tab}{Ew:XK}{e:Expr}{es:List Expr}{f:Ax}{p:Pos}
theorem iA{kd:Nat→Option Bool}{sC:Nat→Nat→Option Bool}{sT:Nat→String→Option Bool}{p0:Pos}(tb:Dj X.K T kd sC sT)(hg:Gl X "isinstance")(hm:X.mg "isinstance"=none)(ha:RA X T Ew (e::es) f)
  (he:sE0 X e es:=by rfl) (Oc:(backTo p (starEach es X.env)).any (·.1)=false:=by rfl):RE X T Ew (.Call (.Name "isinstance" p0) (e::es) [] p) (cN (nh kd sC sT) f):=by with_unfolding_all exact(
  jf (CM tb.g) (Be tb) hg hm (by decide+kernel) ha (by decide) (by decide) he Oc)
end
section
variable{K:W.Frag}{T:Tab}{F H:Hp}{m:List Addr}{h:List PO}
theorem RelH.lt{i:Nat}{a:Addr}(R:RelH K T F m h H)(em:m[i]? =some a):i<h.length:=by
 rw[R.len];rcases Nat.lt_or_ge i m.length with q|q
 ·exact q
 ·rw[List.getElem?_eq_none q]at em;cases em
theorem RelH.inj{i j:Nat}{a:Addr}(R:RelH K T F m h H)(e1:m[i]? =some a)(e2:m[j]? =some a):i=j:=by
 have h1:i<m.length:=by rw[← R.len];exact R.lt e1
 have h2:j<m.length:=by rw[← R.len];exact R.lt e2
 rw[List.getElem?_eq_getElem h1,Option.some.injEq]at e1;rw[List.getElem?_eq_getElem h2,Option.some.injEq]at e2;exact(List.getElem_inj R.nd).mp (e1.trans e2.symm)
theorem Cq{i:Nat}{a:Addr}{u:HO}{p:PV}(R:RelH K T F m h H)(em:m[i]? =some a)(hF:F a=none)(hH:∃o,H a=some o)(hp:p.pure=true)(r:aF K T (upd F a u) m p (.ref a)):
  aX F m H (upd F a u) m (upd H a u)∧RelH K T (upd F a u) m (h.set i (.J7 p)) (upd H a u):=by
 have hi:=R.lt em;have am:a∈m:=List.mem_of_getElem? em;have sF:cD F (upd F a u):=fm hF u;refine⟨⟨sF,⟨[],by simp⟩,fun b o e nb=>?_,fun b o e=>?_,fun j c hj e=>(by rw[List.getElem?_eq_none hj]at e;cases e),fun c o e=>?_⟩,?_⟩
 ·have:b≠a:=fun z=>nb (by rw[z];exact am);rw[ai this];exact e
 ·by_cases hb:b=a
  ·subst hb;exact⟨u,aG⟩
  ·exact⟨o,by rw[ai hb];exact e⟩
 ·by_cases hc:c=a
  ·subst hc;exact .inr (.inr am)
  ·rw[ai hc]at e;exact .inl e
 ·refine⟨fun b o e=>?_,by rw[List.length_set];exact R.len,fun j ob c e1 e2=>?_,R.nd⟩
  ·by_cases hb:b=a
   ·subst hb;rw[aG]at e ⊢;exact e
   ·rw[ai hb]at e ⊢;exact R.same b o e
  ·by_cases hj:i=j
   ·subst hj;rw[List.getElem?_set_self hi]at e1
    cases e1
    rw[em]at e2;cases e2;exact⟨r,hp,u,aG⟩
   ·rw[List.getElem?_set_ne hj]at e1;have hc:c≠a:=fun z=>by subst z;exact hj (R.inj em e2)
    have q:=R.obj j ob c e1 e2
    cases ob with
    |lst xs=>obtain⟨f,vs,z,rr⟩:=q;exact⟨by rw[ai hc];exact f,vs,by rw[ai hc];exact z,rr.mono sF fun _ _ h=>h⟩
    |dct xs=>obtain⟨f,vs,z,k,rr⟩:=q;exact⟨by rw[ai hc];exact f,vs,by rw[ai hc];exact z,k,rr.mono sF fun _ _ h=>h⟩
    |J7 q'=>obtain⟨r1,r2,o,r3⟩:=q;exact⟨r1.mono sF fun _ _ h=>h,r2,o,sF _ _ r3⟩
end
noncomputable def uH(h:List PO):PV→Option (Nat×List (PK×PV))
 |.ref i=>match h[i]? with
  |some (.dct kvs)=>some (i,kvs)
  |_=>none
 |_=>none
def fzP(h:List PO)(p:PV):Option (PV×List PO):=match uH h p with
 |some (i,kvs)=>if dL kvs=true then some (.dct kvs,h.set i (.J7 (.dct kvs)))else none
 |none=>gR h p
def Zm(p:PV)(h:List PO):Res PV:=match fzP h p with
 |some (q,h2)=>.ok q h2
 |none=>.bad
def cFz(f:Ex):Ex:=fun ρ h=>(f ρ h).bind Zm
section
variable{K:W.Frag}{T:Tab}{F H:Hp}{m:List Addr}{h:List PO}{p:PV}{x:V}
theorem qz{i:Nat}{kps:List (PK×PV)}(R:RelH K T F m h H)(r:aF K T F m p x)(e:uH h p=some (i,kps)):∃a kvs,x=.ref a∧m[i]? =some a∧F a=none∧H a=some (.dK kvs)∧fX K T F m kps kvs:=by
 unfold uH at e
 split at e
 ·rename_i j
  split at e
  ·rename_i kvs q
   cases e
   cases r with
   |@ref _ a em=>obtain⟨f,vs,e1,k,rr⟩:=R.obj _ _ a q em;exact⟨a,vs,rfl,em,f,e1,k,rr⟩
  ·cases e
 ·cases e
end
section
variable{X:Cx}{T:Tab}{Ew:XK}{a b e o k v:Expr}{fa fb fo fk fv:Ex}{pos px:Pos}
theorem IX(ha:RE X T Ew a fa):RE X T Ew a (cFz fa):=by with_unfolding_all
 refine PE.imp (FA ha) ?_;rintro σ H Q ⟨F,m,ρ,h,R,p⟩;refine⟨F,m,ρ,h,R,(aD.bind p).mono ?_⟩;rintro x H1 ⟨F1,m1,h1,p1,s1,R1,r1,w1⟩
 unfold Zm fzP at w1
 cases z:uH h1 p1 with
 |none=>
  rw[z]at w1;dsimp only at w1
  cases y:gR h1 p1 with
  |none=>rw[y]at w1;exact w1.elim
  |some ab=>obtain⟨q,h2⟩:=ab;rw[y]at w1;obtain⟨F2,s2,R2,r2,_⟩:=hU R1 r1 y;exact .inl (w1 F2 m1 H1 x s2 R2 r2)
 |some ab=>
  obtain⟨i,kps⟩:=ab;rw[z]at w1;dsimp only at w1
  by_cases hp:dL kps=true
  ·rw[if_pos hp]at w1;obtain⟨a,kvs,rfl,em,hF,hH,kk,rr⟩:=qz R1 r1 z;refine .inr ⟨a,kvs,hH,fun ob=>?_⟩;have rl:aF X.K T (L2.upd F1 a (.SQ ob (.dK kvs))) m1 (.dct kps) (.ref a):=.dct aG kk (rr.mono (fm hF _) fun _ _ h=>h);have pp:(PV.dct kps).pure=true:=by simpa[PV.pure]using hp
   obtain⟨s2,R2⟩:=Cq R1 em hF ⟨_,hH⟩ pp rl;exact w1 _ m1 _ _ s2 R2 rl
  ·rw[if_neg hp]at w1;exact w1.elim
theorem qo{K:W.Frag}{F H:Hp}{m:List Addr}{h:List PO}{Q:VK}{kps:List (PK×PV)}{kvs:List (Key×V)}(w:aD K T (aF K T) F m H Q Ew (.ok (.ref h.length) (h++ [.dct kps])))(R:RelH K T F m h H)(r:fX K T F m kps kvs):∀p,H p=none→Q (.ref p) (upd H p (.dK kvs)):=fun p hp=>by
 have hF:F p=none:=R.same.free hp;have hm:p∉m:=R.fresh hp
 have st:aX F m H F (m++ [p]) (upd H p (.dK kvs)):=by
  refine⟨cD.refl _,⟨[p],rfl⟩,fun b o e _=>by rw[ai (ar e hp)];exact e,fun b o e=>⟨o,by rw[ai (ar e hp)];exact e⟩,fun i a hi e=>?_,fun a o e=>.inl e⟩;rw[List.getElem?_append_right hi]at e
  cases q:i - m.length with
  |zero=>rw[q]at e;simp at e;rw[← e];exact hp
  |succ n=>rw[q]at e;simp at e
 refine w F (m++ [p]) _ (.ref p) st ⟨fun b o e=>?_,by simp[R.len],fun i ob c e1 e2=>?_,?_⟩ (.ref (by rw[R.len,List.getElem?_append_right (ab2 _)];simp))
 ·have:=R.same b o e;rw[ai (ar this hp)];exact this
 ·by_cases hi:i<h.length
  ·rw[List.getElem?_append_left hi]at e1;have Uu:i<m.length:=by rw[← R.len];exact hi
   rw[List.getElem?_append_left Uu]at e2;have hc:c≠p:=fun z=>hm (by rw[← z];exact List.mem_of_getElem? e2);have q:=R.obj i ob c e1 e2
   cases ob with
   |lst xs=>obtain⟨f,vs,z,rr⟩:=q;exact⟨f,vs,by rw[ai hc];exact z,st.reps rr⟩
   |dct xs=>obtain⟨f,vs,z,k,rr⟩:=q;exact⟨f,vs,by rw[ai hc];exact z,k,st.reps rr⟩
   |J7 q'=>obtain⟨r1,r2,o,r3⟩:=q;exact⟨st.rep r1,r2,o,r3⟩
  ·have Yn:h.length≤i:=Nat.le_of_not_lt hi;rw[List.getElem?_append_right Yn]at e1;have aay:m.length≤i:=by rw[← R.len];exact Yn
   rw[List.getElem?_append_right aay]at e2;rw[R.len]at e1
   cases q:i - m.length with
   |zero=>rw[q]at e1 e2;simp at e1 e2;subst e1 e2;exact⟨hF,kvs,aG,r.1,st.reps r.2⟩
   |succ n=>rw[q]at e1;simp at e1
 ·rw[List.nodup_append];exact⟨R.nd,by simp,fun x hx y hy=>by simp at hy;subst hy;intro z;subst z;exact hm hx⟩
noncomputable def yr:Ex:=fun _ h=>.ok (.ref h.length) (h++ [.dct []])
theorem xt:RE X T Ew (.Dict [] [] pos) yr:=by with_unfolding_all exact(
  PE.imp Bt (by rintro σ H Q ⟨F,m,ρ,h,R,p⟩;exact qo p R.toRelH .nil))
def oS(ps:List PV)(h:List PO):Res PV:=match ps with
 |[p]=>match Wu h p with
  |some kps=>.ok (.ref h.length) (h++ [.dct kps])
  |none=>.bad
 |_=>.bad
theorem wI{X:Cx}:dh X (.type "dict") (fun xs H Q=>∃a kvs,xs= [.ref a]∧Rd H a (.dK kvs)∧∀p,H p=none→Q (.ref p) (upd H p (.dK kvs))):=by
 intro pins s σ H xs us Q I r h;obtain⟨a,kvs,rfl,rd,q⟩:=h;obtain⟨u,rfl,ru⟩:=r.one
 cases(show u=Value.ref a from ru)
 exact CF I rd fun p s' np I'=>⟨.ref p,_,I',rfl,q p np⟩
theorem vO{K:W.Frag}{T:Tab}:pM K T (fun xs H Q=>∃a kvs,xs= [.ref a]∧Rd H a (.dK kvs)∧∀p,H p=none→Q (.ref p) (upd H p (.dK kvs))) oS:=by
 intro F m h H xs ps Q Ew R rs w;unfold oS at w
 split at w
 ·obtain⟨x,rfl,rx⟩:=rs.one
  split at w
  ·rename_i kps e;obtain⟨a,kvs,rfl,rd,kk,rr⟩:=lL R rx e;exact⟨a,kvs,rfl,rd,qo w R ⟨kk,rr⟩⟩
  ·exact w.elim
 ·exact w.elim
theorem AN{es:List Expr}{f:Ax}{p0:Pos}(hg:Gl X "dict")(hm:X.mg "dict"=none)(ha:RA X T Ew (e::es) f)
  (he:sE0 X e es:=by rfl) (Oc:sP0 X es pos:=by rfl):RE X T Ew (.Call (.Name "dict" p0) (e::es) [] pos) (cN oS f):=by with_unfolding_all exact(
  jD wI vO hg hm (by decide+kernel) ha (by decide) (by decide) he Oc)
def xm(v o i:PV)(ρ:Ev)(h:List PO):SR:=match uH h o,lF i with
 |some (n,kps),some k=>if kps.length<sizeLine then .nx ρ (h.set n (.dct (kY kps k v)))else .bad
 |_,_=>.bad
def uh(fo fi fv:Ex):Sx:=fun ρ h=>dv (fv ρ h) fun v h1=>dv (fo ρ h1) fun o h2=>dv (fi ρ h2) fun i h3=>xm v o i ρ h3
theorem xq(hu:X.A.units+64<cLine)(ho:RE X T Ew o fo)(hk:RE X T Ew k fk)(hv:RE X T Ew v fv)(hs:swapsWith v (some (.Subscript o k px)) pos.line X.env=pure false:=by rfl):
  RS X T Ew (.Assign [.Subscript o k px] v pos) (uh fo fk fv):=by with_unfolding_all
 refine PS.imp (DV (by omega) ho hk hv hs) ?_;rintro D σ H ⟨F,m,ρ,h,R,p⟩;refine⟨F,m,ρ,h,R,(fL p).mono ?_⟩;rintro v H1 ⟨F1,m1,h1,pv,s1,R1,r1,w1⟩
 refine⟨F1,m1,ρ,h1,R.of s1 R1,(fL w1).mono ?_⟩;rintro o H2 ⟨F2,m2,h2,po,s2,R2,r2,w2⟩;refine⟨F2,m2,ρ,h2,(R.of s1 R1).of s2 R2,(fL w2).mono ?_⟩;rintro i H3 ⟨F3,m3,h3,pi,s3,R3,r3,w3⟩;have RS3:=((R.of s1 R1).of s2 R2).of s3 R3;unfold xm at w3
 split at w3
 ·rename_i n kps kk el ek
  split at w3
  ·rename_i hz;obtain⟨a,kvs,rfl,em,hF,hH,rr⟩:=qz R3 (s3.rep r2) el;have W6:=jH r3 ek;subst W6;have rv:=s3.rep (s2.rep r1);have hl:kvs.length=kps.length:=by have:=congrArg List.length rr.1;simpa using this
   refine⟨a,_,rfl,Dk.k hH (by rw[hl];exact hz),?_⟩;have rp:=fX.put (k:=kk) rr rv;obtain⟨st,R'⟩:=R3.upd (o':=.dct (kY kps kk pv)) (ho:=.dK (iD kvs (tk kk) v)) em hF ⟨_,hH⟩ ⟨hF,_,aG,rp.1,rp.2⟩;exact w3 F3 m3 _ _ st ⟨R',st.env RS3.env⟩
  ·exact w3.elim
 ·exact w3.elim
end
end L3
namespace L2
open PySem PySem.Spec PyProof.Rows
end L2
namespace L3
open PySem PySem.Spec PyProof.Rows L2
end L3
namespace L2
open PySem PySem.Spec PyProof.Rows
end L2
namespace L3
open PySem PySem.Spec PyProof.Rows L2
end L3
namespace L2
open PySem PySem.Spec PyProof.Rows
noncomputable def LH:Key→PyData
 |.inl i=>.int i
 |.inr x=>.str x
mutual
inductive Xw(H:Hp):V→PyData→Prop where
 |bl (b:Bool):Xw H (.bl b) (.bool b)
 |int (i:Int):Xw H (.int i) (.int i)
 |str (x:Str):Xw H (.str x) (.str x)
 |lst {a:Addr} {xs:List V} {ds:List PyData} (e:Rd H a (.lst xs)) (r:Dh H xs ds):Xw H (.ref a) (.list ds)
 |dct {a:Addr} {kvs:List (Key×V)} {Z8:List (PyData×PyData)} (e:Rd H a (.dK kvs)) (k:Z8.map (·.1)=kvs.map (fun p=>LH p.1)) (r:Dh H (kvs.map (·.2)) (Z8.map (·.2))):Xw H (.ref a) (.dict Z8)
inductive Dh(H:Hp):List V→List PyData→Prop where
 |nil:Dh H [] []
 |cons {x:V} {d:PyData} {xs:List V} {ds:List PyData} (r:Xw H x d) (t:Dh H xs ds):Dh H (x::xs) (d::ds)
end
end L2
namespace L3
open PySem PySem.Spec PyProof.Rows L2
section
variable{X:Cx}{T:Tab}{Ew:XK}{a b e o:Expr}{es:List Expr}{fa fb fo:Ex}{fs:Ax}{pos p0:Pos}
noncomputable def Fz(K:W.Frag):R2:=fun x y H Q=>∃a b ys,x=.ref a∧y=.ref b∧O5 K H a []∧O5 K H b ys∧Q (.ref b) H
theorem En:Ov X (binaryOp .Add) (Fz X.K):=by
 intro pins s σ H x y v u Q I rx ry h;obtain⟨p,q,ys,rfl,rfl,hp,hq,k⟩:=h
 cases rx
 cases ry
 obtain⟨its,r1,t1,_⟩:=I.tuple hp;obtain⟨V6,r2,t2,_⟩:=I.tuple hq;obtain⟨⟨c1,d1,dt1,sl1⟩,g1,rfl,n1,rfl⟩:=id t1;obtain⟨⟨c2,d2,dt2,Y0⟩,g2,rfl,n2,rfl⟩:=id t2;have e0:its= []:=r1.Q0.mpr rfl;exact concat_meets ⟨_,g1,rfl⟩ ⟨_,g2,rfl⟩ noFill_tuple_add seq_tuple_add F.slot_tuple_add F.entry_tuple_add (F.args_tuple_add_2 _ _) (tuple_addW0 p q _ _ n1 n2 d1 d2 sl1 Y0 (by simp[e0])) ⟨g1,g2,.ref q,H,I,rfl,k⟩
def aB(p q:PV)(h:List PO):Res PV:=match p,q with
 |.tup [],.tup b=>.ok (.tup b) h
 |p,q=>vU p q h
theorem za{K:W.Frag}:et K T (fun x y H Q=>Fz K x y H Q∨xw K x y H Q) aB:=by
 intro F m h H x y p q Q Ew R rp rq w;unfold aB at w
 split at w
 ·obtain⟨pa,va,rfl,ea,ra⟩:=eR R rp;obtain⟨pb,vb,rfl,eb,rb⟩:=eR R rq
  cases ra
  exact .inl ⟨pa,pb,vb,rfl,rfl,ea,eb,aQ w R rq⟩
 ·exact .inr (Bf F m h H x y _ _ Q Ew R rp rq w)
theorem fT(ha:RE X T Ew a fa)(hb:RE X T Ew b fb):RE X T Ew (.BinOp a .Add b pos) (c2 aB fa fb):=by with_unfolding_all exact(
  oG (Ov.or En xK) za ha hb)
end
def PO.pure:PO→Bool
 |.lst xs=>ah xs
 |.dct kvs=>dL kvs
 |.J7 _=>true
def bC:List PO→Bool
 |[]=>true
 |o::r=>o.pure&&bC r
section
variable{K:W.Frag}{T:Tab}{F F1 F2 H H1 H2:Hp}{m m1 m2:List Addr}
theorem iF:∀{h:List PO}{i:Nat}{o:PO},bC h=true→h[i]? =some o→o.pure=true
 |[],_,_,_,e=>by simp at e
 |x::r,0,o,p,e=>by simp only[bC,ab1]at p;simp at e;subst e;exact p.1
 |x::r,i+1,o,p,e=>by simp only[bC,ab1]at p;exact iF (h:=r) p.2 (by simpa using e)
theorem aX.cut(s:aX F m H F1 m1 H1):aX F m H F1 m H1:=⟨s.fz,⟨[],by simp⟩,s.fr,s.dom,fun i a hi e=>(by rw[List.getElem?_eq_none hi]at e;cases e),s.SX⟩
theorem Di.J_{m':List Addr}{a:Addr}{o:PO}(h:Di K T F m H a o)(p:o.pure=true):Di K T F m' H a o:=by
 cases o with
 |lst xs=>obtain⟨f,vs,e,r⟩:=h;exact⟨f,vs,e,r.J_ p⟩
 |dct kvs=>obtain⟨f,vs,e,k,r⟩:=h;exact⟨f,vs,e,k,r.J_ (by rw[← eJ];exact p)⟩
 |J7 q=>obtain⟨r,pq,o,e⟩:=h;exact⟨r.J_ pq,pq,o,e⟩
theorem RelH.cut{t:List Addr}{h:List PO}(R:RelH K T F (m++t) h H)(p:bC (h.take m.length)=true):RelH K T F m (h.take m.length) H:=by
 have hl:=R.len;rw[List.length_append]at hl;refine⟨R.same,by rw[List.length_take];omega,fun i o a e1 e2=>?_,(List.nodup_append.mp R.nd).1⟩
 have hi:i<m.length:=by
  rcases Nat.lt_or_ge i m.length with q|q
  ·exact q
  ·rw[List.getElem?_eq_none q]at e2;cases e2
 have pp:=iF p e1;rw[List.getElem?_take_of_lt hi]at e1;exact(R.obj i o a e1 (by rw[List.getElem?_append_left hi];exact e2)).J_ pp
end
noncomputable def Um(K:W.Frag)(T:Tab)(np:Nat)(fn:List PV→List PO→Res PV):Sp:=fun vs H Q E=>∃F m h ps,ps.length=np∧RelH K T F m h H∧ak K T F m ps vs∧aD K T (aF K T) F m H Q E (fn ps h)
theorem xj{K:W.Frag}{T:Tab}{np:Nat}{fn:List PV→List PO→Res PV}{vs:List V}{H:Hp}{Q:VK}{E:XK}(h:Um K T np fn vs H Q E):vs.length=np:=by obtain⟨F,m,h,ps,e,_,r,_⟩:=h;rw[← r.length];exact e
def fQ(n:Nat)(v:PV)(h:List PO):Res PV:=if(bC (h.take n)&&Nat.ble n h.length)=true then .ok v (h.take n)else .bad
def dq(n:Nat)(v:PV)(h:List PO):Res PV:=match gR h v with
 |some (q,h2)=>fQ n q h2
 |none=>.bad
def eC(f:Sx)(np n:Nat)(ps:List PV)(h:List PO):Res PV:=if ps.length=np then match f (ps.map some++List.replicate (n - ps.length) none) h with
  |.nx _ h1=>fQ h.length .non h1
  |.rt v h1=>dq h.length v h1
  |_=>.bad
 else .bad
def sS(n:Nat)(e:PV)(h:List PO):Res PV:=if(bC (h.take n)&&Nat.ble n h.length&&e.pure)=true then .exc e (h.take n)else .bad
def mZ(f:Sx)(np n:Nat)(ps:List PV)(h:List PO):Res PV:=if ps.length=np then match f (ps.map some++List.replicate (n - ps.length) none) h with
  |.nx _ h1=>fQ h.length .non h1
  |.rt v h1=>dq h.length v h1
  |.exc e h1=>sS h.length e h1
  |_=>.bad
 else .bad
section
variable{P:Program}{w:World}{K:W.Frag}{mg:Str→Option Value}{base:Heap}{T:Tab}
theorem oE{N:List Str}{F:Hp}{m:List Addr}{ps:List PV}{vs:List V}(r:ak K T F m ps vs):kB K T F m (ps.map some++List.replicate (N.length - ps.length) none) (gV N vs):=by
 unfold L2.gV;have hl:=r.length;refine⟨by simp[hl],fun i p e=>?_⟩;rcases Nat.lt_or_ge i ps.length with hi|hi
 ·rw[List.getElem?_append_left (by simpa using hi),List.getElem?_map]at e
  cases q:ps[i]? with
  |none=>rw[q]at e;cases e
  |some p'=>
   rw[q]at e
   cases e
   obtain⟨v,h1,h2⟩:=r.get q;exact⟨v,by rw[List.getElem?_append_left (by simp;omega),List.getElem?_map,h1];rfl,h2⟩
 ·rw[List.getElem?_append_right (by simpa using hi)]at e;rw[List.getElem?_replicate]at e
  split at e<;>cases e
theorem lM{F H F' H':Hp}{m m':List Addr}{h h1:List PO}{Q:VK}{Ew:XK}{v:PV}{x:V}(R0:RelH K T F m h H)(s:aX F m H F' m' H')(R:RelH K T F' m' h1 H')(r:aF K T F' m' v x)(pv:v.pure=true)
  (w:aD K T (aF K T) F m H Q Ew (fQ h.length v h1)):Q x H':=by
 unfold fQ at w
 split at w
 ·rename_i z;rw[ab1]at z;obtain⟨t,rfl⟩:=s.pre;rw[R0.len]at w z;exact w F' m H' x s.cut (R.cut z.1) (r.J_ pv)
 ·exact w.elim
theorem ES{x C_:Str}{st:Stmt}{f:Addr}{fd:FuncData}{N ps:List Str}{k:Nat}{g:Sx}(Fn:U9 K x C_ st f fd)(Sc:gM N ps (aK st))
  (hb:∀(K9:Value)(A:Around)(outer:List Env)(s:Shared)(H:Hp)(E:XK),bZ k (A.deeper (envOfC C_ (aK st) s.heap.objs.size f K9))→
   Tr (jy QT P w K mg base N C_ (aK st) f K9 A outer s H E).Wm T (fun _ _ _=>False) (cO st) g):
  cP P w K mg base QT (k+1) f fd ps (Um K T ps.length (eC g ps.length N.length)):=by with_unfolding_all
 refine Fn.ok Sc (fun vs H Q E h=>xj h) fun K9 A outer s H vs Q E hr h=>⟨_,hb K9 A outer s H E hr,?_⟩
 obtain⟨F,m,h,qs,hl,R,r,q⟩:=h;refine⟨F,m,_,h,⟨R,oE r⟩,?_⟩;unfold eC at q;rw[if_pos hl]at q
 cases z:g (qs.map some++List.replicate (N.length - qs.length) none) h with
 |nx ρ h1=>rw[z]at q;exact fun F' m' H' σ' s R'=>lM R s R'.toRelH .non rfl q
 |rt p h1=>
  rw[z]at q;intro F' m' H' x s R' rp;dsimp only[dq]at q
  cases y:gR h1 p with
  |none=>rw[y]at q;exact q.elim
  |some ab=>obtain⟨p2,h2⟩:=ab;rw[y]at q;obtain⟨F2,s2,R2,r2,hp⟩:=hU R' rp y;exact lM R (s.trans s2) R2 r2 hp q
 |bk _ _=>rw[z]at q;exact q.elim
 |ct _ _=>rw[z]at q;exact q.elim
 |exc _ _=>rw[z]at q;exact q.elim
 |bad=>rw[z]at q;exact q.elim
theorem zI{F H F' H':Hp}{m m':List Addr}{h h1:List PO}{Q:VK}{Ew:XK}{v:PV}{cls:Value}{dx:Option Addr}(R0:RelH K T F m h H)(s:aX F m H F' m' H')(R:RelH K T F' m' h1 H')(r:kA K T F' m' v cls dx)
  (w:aD K T (aF K T) F m H Q Ew (sS h.length v h1)):Ew cls dx H':=by
 unfold sS at w
 split at w
 ·rename_i z;rw[ab1,ab1]at z;obtain⟨t,rfl⟩:=s.pre;rw[R0.len]at w z;exact w F' m H' cls dx s.cut (R.cut z.1.1) (r.J_ z.2)
 ·exact w.elim
theorem Cs{x C_:Str}{st:Stmt}{f:Addr}{fd:FuncData}{N ps:List Str}{k:Nat}{g:Sx}(Fn:U9 K x C_ st f fd)(Sc:gM N ps (aK st))
  (hb:∀(K9:Value)(A:Around)(outer:List Env)(s:Shared)(H:Hp)(E:XK),bZ k (A.deeper (envOfC C_ (aK st) s.heap.objs.size f K9))→
   Tr (jy (Rb P w) P w K mg base N C_ (aK st) f K9 A outer s H E) T E (cO st) g):
  cP P w K mg base (Rb P w) (k+1) f fd ps (Um K T ps.length (mZ g ps.length N.length)):=by with_unfolding_all
 obtain⟨oc,od,kV,doc,pm,an,K9,ct,Rz,rfl,lk,RK⟩:=Fn.ex;refine Ct lk RK Sc (fun vs H Q E h=>xj h) fun A outer s H vs Q E hr h=>⟨_,hb K9 A outer s H E hr,?_⟩
 obtain⟨F,m,h,qs,hl,R,r,q⟩:=h;refine⟨F,m,_,h,⟨R,oE r⟩,?_⟩;unfold mZ at q;rw[if_pos hl]at q
 cases z:g (qs.map some++List.replicate (N.length - qs.length) none) h with
 |nx ρ h1=>rw[z]at q;exact fun F' m' H' σ' s R'=>lM R s R'.toRelH .non rfl q
 |rt p h1=>
  rw[z]at q;intro F' m' H' x s R' rp;dsimp only[dq]at q
  cases y:gR h1 p with
  |none=>rw[y]at q;exact q.elim
  |some ab=>obtain⟨p2,h2⟩:=ab;rw[y]at q;obtain⟨F2,s2,R2,r2,hp⟩:=hU R' rp y;exact lM R (s.trans s2) R2 r2 hp q
 |exc e h1=>rw[z]at q;exact fun F' m' H' cls dx s R' rx=>zI R s R' rx q
 |bk _ _=>rw[z]at q;exact q.elim
 |ct _ _=>rw[z]at q;exact q.elim
 |bad=>rw[z]at q;exact q.elim
end
noncomputable def S_:List PV→List Nat
 |[]=>[]
 |.ref i::r=>i::S_ r
 |_::r=>S_ r
noncomputable def Ti:Nat→List PV→List PV
 |_,[]=>[]
 |n,.ref _::r=>.ref n::Ti (n+1) r
 |n,p::r=>p::Ti n r
def gP:List PV→Bool
 |[]=>true
 |.ref _::r=>gP r
 |p::r=>p.pure&&gP r
noncomputable def fO(h:List PO):List Nat→Option (List PO)
 |[]=>some []
 |i::r=>match h[i]? with
  |some o=>match fO h r with
   |some l=>some (o::l)
   |none=>none
  |none=>none
noncomputable def dJ:List PO→List Nat→List PO→List PO
 |h,i::r,o::l=>dJ (h.set i o) r l
 |h,_,_=>h
noncomputable def gO:List Nat→Bool
 |[]=>true
 |i::r=>!r.contains i&&gO r
theorem qt:∀{l:List Nat},gO l=true→l.Nodup
 |[],_=>List.nodup_nil
 |i::r,h=>by simp only[gO,ab1,Bool.not_eq_true',List.contains_eq_mem,decide_eq_false_iff_not]at h;exact List.nodup_cons.mpr ⟨h.1,qt h.2⟩
def bY(fn:List PV→List PO→Res PV)(ps:List PV)(h:List PO):Res PV:=match fO h (S_ ps)with
 |some hs=>if(gP ps&&bC hs&&gO (S_ ps))=true then match fn (Ti 0 ps) hs with
   |.ok v T3=>if v.pure=true∧bC T3=true∧T3.length=hs.length then .ok v (dJ h (S_ ps) T3)else .bad
   |.exc v T3=>if v.pure=true∧bC T3=true∧T3.length=hs.length then .exc v (dJ h (S_ ps) T3)else .bad
   |.bad=>.bad
  else .bad
 |none=>.bad
def aT(fn:List PV→List PO→Res PV)(as:Ax):Ex:=fun ρ h=>(as ρ h).bind (bY fn)
section
variable{K:W.Frag}{T:Tab}{F H:Hp}{m:List Addr}{h:List PO}
theorem rM{pre:List Addr}:∀{ps:List PV}{vs:List V}{as:List Addr}{n:Nat},ak K T F m ps vs→gP ps=true→(S_ ps).map (m[·]?)=as.map some→∀(pre:List Addr),pre.length=n→ak K T F (pre++as) (Ti n ps) vs
 |[],_,_,_,.nil,_,_,_,_=>.nil
 |p::r,_,as,n,.cons r1 r2,ok,e,pre,hn=>by
  by_cases hr:∃i,p=.ref i
  ·obtain⟨i,rfl⟩:=hr
   cases as with
   |nil=>simp[S_]at e
   |cons a as=>
    simp only[S_,List.map_cons,List.cons.injEq]at e
    cases r1 with
    |ref em=>
     rw[em]at e;obtain⟨e0,e1⟩:=e
     cases e0
     show ak K T F _ (.ref n::Ti (n+1) r) _;have q:=rM (pre:=pre) (n:=n+1) r2 (by simpa[gP]using ok) e1 (pre++ [a]) (by simp[hn]);rw[List.append_assoc,List.singleton_append]at q;exact .cons (.ref (by rw[List.getElem?_append_right (by omega),hn];simp)) q
  ·have h1:S_ (p::r)=S_ r:=by cases p<;>first|rfl|exact(hr ⟨_,rfl⟩).elim
   have h2:Ti n (p::r)=p::Ti n r:=by cases p<;>first|rfl|exact(hr ⟨_,rfl⟩).elim
   have h3:gP (p::r)=(p.pure&&gP r):=by cases p<;>first|rfl|exact(hr ⟨_,rfl⟩).elim
   rw[h3,ab1]at ok;rw[h1]at e;rw[h2];exact .cons (r1.J_ ok.1) (rM (pre:=pre) r2 ok.2 e pre hn)
theorem kx:∀{is:List Nat}{hs:List PO},fO h is=some hs→hs.length=is.length
 |[],_,e=>by cases e;rfl
 |i::r,hs,e=>by
  unfold fO at e
  split at e
  ·split at e
   ·cases e;rename_i z;simp[kx z]
   ·cases e
  ·cases e
theorem pj:∀{is:List Nat}{hs:List PO}{j:Nat}{o:PO},fO h is=some hs→hs[j]? =some o→∃i,is[j]? =some i∧h[i]? =some o
 |[],_,_,_,e,e2=>by cases e;simp at e2
 |i::r,hs,j,o,e,e2=>by
  unfold fO at e
  split at e
  ·split at e
   ·cases e
    rename_i z1 _ _ z2
    cases j with
    |zero=>simp at e2;subst e2;exact⟨i,rfl,z1⟩
    |succ j=>exact pj (is:=r) (j:=j) z2 (by simpa using e2)
   ·cases e
  ·cases e
theorem Kj(R:RelH K T F m h H):∀{is:List Nat}{hs:List PO},fO h is=some hs→∃as:List Addr,is.map (m[·]?)=as.map some
 |[],_,_=>⟨[],rfl⟩
 |i::r,hs,e=>by
  unfold fO at e
  split at e
  ·split at e
   ·rename_i z1 _ _ z2;obtain⟨as,q⟩:=Kj R z2
    have hi:i<m.length:=by
     rw[← R.len];rcases Nat.lt_or_ge i h.length with z|z
     ·exact z
     ·rw[List.getElem?_eq_none z]at z1;cases z1
    exact⟨m[i]::as,by simp[q,hi]⟩
   ·cases e
  ·cases e
theorem jB{is:List Nat}{as:List Addr}(e:is.map (m[·]?)=as.map some){j:Nat}{a:Addr}(ea:as[j]? =some a):∃i,is[j]? =some i∧m[i]? =some a:=by
 have q:=congrArg (·[j]?) e;simp only[List.getElem?_map,ea,Option.map_some]at q
 cases z:is[j]? with
 |none=>rw[z]at q;simp at q
 |some i=>rw[z]at q;simp at q;exact⟨i,rfl,q⟩
theorem yA(hm:m.Nodup):∀{is:List Nat}{as:List Addr},is.map (m[·]?)=as.map some→is.Nodup→as.Nodup
 |[],[],_,_=>List.nodup_nil
 |[],_::_,e,_=>by simp at e
 |_::_,[],e,_=>by simp at e
 |i::r,a::as,e,h=>by
  simp only[List.map_cons,List.cons.injEq]at e;obtain⟨h1,h2⟩:=List.nodup_cons.mp h;refine List.nodup_cons.mpr ⟨fun z=>?_,yA hm e.2 h2⟩;obtain⟨j,hj⟩:=List.mem_iff_getElem?.mp z;obtain⟨i2,q1,q2⟩:=jB e.2 hj
  have hi:i<m.length:=by
   rcases Nat.lt_or_ge i m.length with z|z
   ·exact z
   ·rw[List.getElem?_eq_none z]at e;cases e.1
  have hi2:i2<m.length:=by
   rcases Nat.lt_or_ge i2 m.length with z|z
   ·exact z
   ·rw[List.getElem?_eq_none z]at q2;cases q2
  have e1:=e.1;rw[List.getElem?_eq_getElem hi,Option.some.injEq]at e1;rw[List.getElem?_eq_getElem hi2,Option.some.injEq]at q2;have:i=i2:=(List.getElem_inj hm).mp (e1.trans q2.symm);subst this;exact h1 (List.mem_of_getElem? q1)
theorem oH:∀(is:List Nat)(hs h:List PO),(dJ h is hs).length=h.length
 |[],_,_=>by simp[dJ]
 |_::_,[],_=>by simp[dJ]
 |i::r,o::l,h=>by simp[dJ,oH r l]
theorem iE:∀{is:List Nat}{hs h:List PO}{j:Nat},j∉is→(dJ h is hs)[j]? =h[j]?
 |[],_,_,_,_=>by simp[dJ]
 |_::_,[],_,_,_=>by simp[dJ]
 |i::r,o::l,h,j,n=>by simp only[List.mem_cons,not_or]at n;rw[dJ,iE n.2,List.getElem?_set_ne (fun z=>n.1 z.symm)]
theorem qk:∀{is:List Nat}{hs h:List PO}{j i:Nat},is.Nodup→is[j]? =some i→i<h.length→j<hs.length→(dJ h is hs)[i]? =hs[j]?
 |[],_,_,_,_,_,e,_,_=>by simp at e
 |_::_,[],_,_,_,_,_,_,q=>by simp at q
 |i0::r,o::l,h,j,i,nd,e,hi,q=>by
  obtain⟨n1,n2⟩:=List.nodup_cons.mp nd
  cases j with
  |zero=>simp at e;subst e;rw[dJ,iE n1,List.getElem?_set_self hi];rfl
  |succ j=>rw[dJ,qk (j:=j) n2 (by simpa using e) (by simpa using hi) (by simpa using q)];simp
end
section
variable{X:Cx}{T:Tab}{Ew:XK}{e:Expr}{es:List Expr}{fs:Ax}{pos p0:Pos}{k:Nat}{f:Addr}{fd:FuncData}{ps:List Str}{fn:List PV→List PO→Res PV}{x:Str}
theorem wJ{F H:Hp}{m:List Addr}{h:List PO}{Q:VK}{K:W.Frag}{np:Nat}{qs:List PV}{vs:List V}(UG:∀qs hs,fn qs hs≠.bad→qs.length=np)(R:RelH K T F m h H)(r:ak K T F m qs vs)(w:aD K T (aF K T) F m H Q Ew (bY fn qs h)):Um K T np fn vs H Q Ew:=by
 unfold bY at w
 cases z:fO h (S_ qs)with
 |none=>rw[z]at w;exact w.elim
 |some hs=>
  rw[z]at w;dsimp only at w
  split at w
  ·rename_i c;simp only[ab1]at c;obtain⟨⟨c1,c2⟩,c3⟩:=c;have nd:=qt c3;obtain⟨as,ea⟩:=Kj R z
   have L_:hs.length=as.length:=by have:=congrArg List.length ea;simp only[List.length_map]at this;rw[kx z,this]
   have nda:=yA R.nd ea nd
   have R1:RelH K T F as hs H:=⟨R.same,L_,fun j o a e1 e2=>by obtain⟨i,q1,q2⟩:=pj z e1;obtain⟨i2,q3,q4⟩:=jB ea e2;rw[q1]at q3;cases q3;exact(R.obj i o a q2 q4).J_ (iF c2 e1),nda⟩
   have r1:ak K T F as (Ti 0 qs) vs:=by have:=rM (pre:=[]) (n:=0) r c1 ea [] rfl;simpa using this
   have back:∀{T3:List PO}{F' H':Hp}{m':List Addr},bC T3=true→T3.length=hs.length→aX F as H F' m' H'→RelH K T F' m' T3 H'→aX F m H F' m H'∧RelH K T F' m (dJ h (S_ qs) T3) H':=by
    intro T3 F' H' m' d2 d3 s R2;obtain⟨t,rfl⟩:=s.pre
    have ht:t= []:=by
     have:=R2.len;rw[d3,L_,List.length_append]at this
     cases t with
     |nil=>rfl
     |cons a b=>simp at this
    subst ht;rw[List.append_nil]at R2 s
    have sub:∀a,a∈as→a∈m:=fun a ha=>by obtain⟨j,hj⟩:=List.mem_iff_getElem?.mp ha;obtain⟨i,_,q⟩:=jB ea hj;exact List.mem_of_getElem? q
    refine⟨⟨s.fz,⟨[],by simp⟩,fun b o hb n=>s.fr b o hb fun q=>n (sub _ q),s.dom,fun i a hi e=>(by rw[List.getElem?_eq_none hi]at e;cases e),fun a o e=>(s.SX a o e).imp id (Or.imp id (sub a))⟩,?_⟩;refine⟨R2.same,by rw[oH];exact R.len,fun i o a e1 e2=>?_,R.nd⟩
    have him:i<m.length:=by
     rcases Nat.lt_or_ge i m.length with q|q
     ·exact q
     ·rw[List.getElem?_eq_none q]at e2;cases e2
    by_cases hi:i∈S_ qs
    ·obtain⟨j,hj⟩:=List.mem_iff_getElem?.mp hi
     have hjl:j<T3.length:=by
      rw[d3,kx z];rcases Nat.lt_or_ge j (S_ qs).length with q|q
      ·exact q
      ·rw[List.getElem?_eq_none q]at hj;cases hj
     rw[qk nd hj (by rw[R.len];exact him) hjl]at e1;have hja:j<as.length:=by rw[← L_,← d3];exact hjl
     have ej:as[j]? =some a:=by obtain⟨i2,q1,q2⟩:=jB ea (List.getElem?_eq_getElem hja);rw[hj]at q1;cases q1;rw[e2]at q2;rw[List.getElem?_eq_getElem hja,q2]
     exact(R2.obj j o a e1 ej).J_ (iF d2 e1)
    ·rw[iE hi]at e1
     have na:a∉as:=fun q=>by
      obtain⟨j,hj⟩:=List.mem_iff_getElem?.mp q;obtain⟨i2,q1,q2⟩:=jB ea hj
      have hi2:i2<m.length:=by
       rcases Nat.lt_or_ge i2 m.length with q|q
       ·exact q
       ·rw[List.getElem?_eq_none q]at q2;cases q2
      rw[List.getElem?_eq_getElem him,Option.some.injEq]at e2;rw[List.getElem?_eq_getElem hi2,Option.some.injEq]at q2;have:i=i2:=(List.getElem_inj R.nd).mp (e2.trans q2.symm);subst this;exact hi (List.mem_of_getElem? q1)
     have live:∀{u},F a=none→H a=some u→F' a=none:=fun n hu=>by
      cases z:F' a with
      |none=>rfl
      |some o=>
       rcases s.SX a o z with y|y|y
       ·rw[n]at y;cases y
       ·rw[hu]at y;cases y
       ·exact(na y).elim
     have mono:∀{ps us},ak K T F m ps us→ak K T F' m ps us:=fun r=>r.mono s.fz fun _ _ h=>h;have q:=R.obj i o a e1 e2
     cases o with
     |lst xs=>obtain⟨f0,ws,z,rr⟩:=q;exact⟨live f0 z,ws,s.fr _ _ z na,mono rr⟩
     |dct xs=>obtain⟨f0,ws,z,kk,rr⟩:=q;exact⟨live f0 z,ws,s.fr _ _ z na,kk,mono rr⟩
     |J7 p'=>obtain⟨r1,r3,o,r4⟩:=q;exact⟨r1.mono s.fz fun _ _ h=>h,r3,o,s.fz _ _ r4⟩
   have ln:fn (Ti 0 qs) hs≠.bad→(Ti 0 qs).length=np:=UG _ _
   cases y:fn (Ti 0 qs) hs with
   |bad=>rw[y]at w;exact w.elim
   |exc v T3=>
    rw[y]at w ln;dsimp only at w
    split at w
    ·rename_i d;refine⟨F,as,hs,Ti 0 qs,ln (fun z=>by cases z),R1,r1,?_⟩;rw[y];intro F' m' H' cls dx s R2 rx;obtain⟨s3,R3⟩:=back d.2.1 d.2.2 s R2;exact w F' m H' cls dx s3 R3 (rx.J_ d.1)
    ·exact w.elim
   |ok v T3=>
    rw[y]at w ln;dsimp only at w
    split at w
    ·rename_i d;refine⟨F,as,hs,Ti 0 qs,ln (fun z=>by cases z),R1,r1,?_⟩;rw[y];intro F' m' H' x s R2 rx;obtain⟨s3,R3⟩:=back d.2.1 d.2.2 s R2;exact w F' m H' x s3 R3 (rx.J_ d.1)
    ·exact w.elim
  ·exact w.elim
theorem Jt{X:Cx}{E:XK}:eQ QT X E:=fun _ _ _ _ _ _ _ h=>h.elim
theorem uo{CX:UW}(F:cP X.prog X.w X.K X.mg X.base CX k f fd ps (Um X.K T ps.length fn))(UG:∀qs hs,fn qs hs≠.bad→qs.length=ps.length)(hp:eQ CX X Ew)(hr:bZ k X.A)(hg:Gl X x)(hm:X.mg x=some (.ref f))(hk:W.keepIn X.K (.ref f)=true)(hb:eF X.K fd ps [])
  (ha:RA X T Ew (e::es) fs) (Ql:nD0 x:=by decide)(he:sE0 X e es:=by rfl) (Oc:sP0 X es pos:=by rfl):
  RE X T Ew (.Call (.Name x p0) (e::es) [] pos) (aT fn fs):=by with_unfolding_all
 refine PE.imp (xH F hr hg hm hk hb .nil hp ha Ql he Oc) ?_;rintro σ H Q ⟨F,m,ρ,h,R,p⟩;refine⟨F,m,ρ,h,R,(aD.bind p).mono ?_⟩;rintro vs H1 ⟨F1,m1,h1,qs,s1,R1,r1,w1⟩
 rw[List.append_nil];exact wJ UG R1 r1 w1
theorem AO(F:cP X.prog X.w X.K X.mg X.base QT k f fd ps (Um X.K T ps.length fn))(UG:∀qs hs,fn qs hs≠.bad→qs.length=ps.length)(hr:bZ k X.A)(hg:Gl X x)(hm:X.mg x=some (.ref f))(hk:W.keepIn X.K (.ref f)=true)(hb:eF X.K fd ps [])
  (ha:RA X T Ew (e::es) fs) (Ql:nD0 x:=by decide)(he:sE0 X e es:=by rfl) (Oc:sP0 X es pos:=by rfl):
  RE X T Ew (.Call (.Name x p0) (e::es) [] pos) (aT fn fs):=uo F UG Jt hr hg hm hk hb ha Ql he Oc
theorem AB{f:Sx}{np n:Nat}:∀qs hs,eC f np n qs hs≠.bad→qs.length=np:=fun qs hs e=>by
 unfold eC at e
 split at e
 ·assumption
 ·exact absurd rfl e
theorem oA{f:Sx}{np n:Nat}:∀qs hs,mZ f np n qs hs≠.bad→qs.length=np:=fun qs hs e=>by
 unfold mZ at e
 split at e
 ·assumption
 ·exact absurd rfl e
end
abbrev Wg:=List PV→Ev→Option Ev
@[irreducible] def Zx(X:Cx)(T:Tab)(es:List Expr)(g:Wg):Prop:=VN X es (fun vs σ H Q=>∃F m ρ h ps ρ',fY X.K T F m ρ h σ H∧ak X.K T F m ps vs∧g ps ρ=some ρ'∧∀ σ',kB X.K T F m ρ' σ'→Q σ' H)
noncomputable def cW:Wg:=fun ps ρ=>match ps with
 |[]=>some ρ
 |_=>none
noncomputable def aO(g:Gx)(gs:Wg):Wg:=fun ps ρ=>match ps with
 |p::r=>match g p ρ with
  |some ρ1=>gs r ρ1
  |none=>none
 |[]=>none
noncomputable def Sd(n:Nat)(gs:Wg):Gx:=fun p ρ=>match p with
 |.tup ps=>if ps.length=n then gs ps ρ else none
 |_=>none
def AA(g:Gx)(f:Ex):Sx:=fun ρ h=>dv (f ρ h) fun v h1=>match g v ρ with
 |some ρ1=>.nx ρ1 h1
 |none=>.bad
section
variable{X:Cx}{T:Tab}{Ew:XK}{e tg:Expr}{es:List Expr}{f:Ex}{g:Gx}{gs:Wg}{pos:Pos}
theorem PG.imp{t t':TG}(h:PG X e t)(i:∀v σ H Q,t' v σ H Q→t v σ H Q):PG X e t':=fun pins s σ H v u Q I r q=>h pins s σ H v u Q I r (i _ _ _ _ q)
theorem VN.imp{t t':Wy}(h:VN X es t)(i:∀v σ H Q,t' v σ H Q→t v σ H Q):VN X es t':=fun pins s σ H v u Q I r q=>h pins s σ H v u Q I r (i _ _ _ _ q)
theorem rO:Zx X T [] cW:=by with_unfolding_all
 refine VN.imp Ea ?_;rintro vs σ H Q ⟨F,m,ρ,h,ps,ρ',R,r,e,q⟩
 cases r with
 |nil=>cases e;exact⟨rfl,q _ R.env⟩
 |cons _ _=>cases e
theorem jd(h1:RG X T e g)(h2:Zx X T es gs)(hs:(assignEach (e::es) X.env).map (·.2)=assign e X.env::(assignEach es X.env).map (·.2):=by rfl):Zx X T (e::es) (aO g gs):=by with_unfolding_all
 refine VN.imp (Bp h1 h2 hs) ?_;rintro vs σ H Q ⟨F,m,ρ,h,ps,ρ',R,r,e,q⟩
 cases r with
 |nil=>cases e
 |@cons p v r vr r1 r2=>
  have e:(match g p ρ with|some ρ1=>gs r ρ1|none=>none)=some ρ':=e
  cases z:g p ρ with
  |none=>rw[z]at e;cases e
  |some ρ1=>rw[z]at e;exact⟨v,vr,rfl,F,m,ρ,h,p,ρ1,R,r1,z,fun σ1 R1=>⟨F,m,ρ1,h,r,ρ',⟨R.toRelH,R1⟩,r2,e,q⟩⟩
theorem vI{n k:Nat}(h:Zx X T es gs)(hc:X.calm=true:=by rfl)(hn:(assignEach es X.env).length=n:=by rfl)(hst:(assignEach es X.env).findIdx? (·.1)=none:=by rfl):RG X T (.Tuple es k pos) (Sd n gs):=by with_unfolding_all
 refine PG.imp (Hl hc h hn hst) ?_;rintro v σ H Q ⟨F,m,ρ,h,p,ρ',R,r,e,q⟩
 cases r with
 |@tup ps a vs sq rr=>
  have e:(if ps.length=n then gs ps ρ else none)=some ρ':=e
  split at e
  ·rename_i hl;exact⟨a,vs,rfl,R.same.Rt sq,by rw[← rr.length];exact hl,F,m,ρ,h,ps,ρ',R,rr,e,q⟩
  ·cases e
 |_=>cases e
theorem GR(ha:RE X T Ew e f)(hg:RG X T tg g)(hs:swapsWithSole [tg] e pos.line X.env=pure false:=by rfl)(hw:swappedStores [tg] e X.env=pure none:=by rfl)
  (h1:(assignEach [tg] X.env).map (·.2)=[assign tg X.env]:=by rfl):RS X T Ew (.Assign [tg] e pos) (AA g f):=by with_unfolding_all
 refine PS.imp (AZ ha hg hs hw h1) ?_;rintro D σ H ⟨F,m,ρ,h,R,p⟩;refine⟨F,m,ρ,h,R,(fL p).mono ?_⟩;rintro v H1 ⟨F1,m1,h1,q,s1,R1,r1,w1⟩
 cases z:g q ρ with
 |none=>rw[z]at w1;exact w1.elim
 |some ρ1=>rw[z]at w1;exact⟨F1,m1,ρ,h1,q,ρ1,R.of s1 R1,r1,z,fun σ1 E1=>w1 F1 m1 H1 σ1 .refl ⟨R1,E1⟩⟩
end
noncomputable def rZ(ps:List PV)(h:List PO):Res PV:=match ps with
 |[.int i,.int j]=>.ok (.int (if j>i then j else i)) h
 |_=>.bad
section
variable{X:Cx}{T:Tab}{Ew:XK}{pos p0:Pos}
theorem GV{e:Expr}{es:List Expr}{f:Ax}(hg:Gl X "max")(hm:X.mg "max"=none)(ha:RA X T Ew (e::es) f)(hc:X.calm=true:=by rfl)
  (he:sE0 X e es:=by rfl) (Oc:sP0 X es pos:=by rfl):
  RE X T Ew (.Call (.Name "max" p0) (e::es) [] pos) (cN rZ f):=by with_unfolding_all exact(jf (zM hc) (by
 intro F m h H xs ps Q Ew R rp w;unfold rZ at w
 split at w
 ·obtain⟨x,y,rfl,rx,ry⟩:=rp.two
  cases rx
  cases ry
  exact⟨_,_,rfl,aQ w R (.int _)⟩
 ·exact w.elim) hg hm (by decide+kernel) ha (by decide) (by decide) he Oc)
end
end L3
namespace L2
open PySem PySem.Spec PyProof.Rows
section
variable{prog:Program}{w:World}{A:Around}{E:Value→Shared→Prop}{s:Shared}{it t:Addr}{i:Nat}{items:Array Value}
theorem uy{Q:Value→Shared→Prop}(hit:s.heap.IsTupleIter it t i)
  (go:wpAny (model prog w) A.in1 (Builtin.«tuple_iterator.__next__» ⟨[.ref it],[]⟩) (fun fin s'=>∃v,fin=.done (.ret v)∧Q v s') E s):wpAny (model prog w) A (Builtin.SmallTypes.nextOf (.ref it)) Q E s:=by
 have ty:=hit.typeIs;have c:=wpAny_callSpecial?_slot (E:=E) (name:="__next__") (Q:=fun r s'=>∃v,r=some v∧Q v s') ty F.slot_tuple_iterator_next (wpAny_call_entry F.slot_tuple_iterator_next ty F.entry_tuple_iterator_next (wpAny_mono go ((by rintro fin s' ⟨v,e,q⟩;exact ⟨v,e,v,rfl,q⟩)) fun _ _ z=>z) (F.args_tuple_iterator_next_1 _));unfold Builtin.SmallTypes.nextOf;exact wpAny_bind (wpAny_mono c ((by rintro r s' ⟨v,e,q⟩;subst e;exact wpAny_pure q)) fun _ _ z=>z)
theorem yR{x:Value}{Q:Value→Shared→Prop}(hit:s.heap.IsTupleIter it t i)(ht:s.heap.IsTuple t items)(hx:items[i]? =some x)(hQ:∀h',h'.IsTupleIter it t (i+1)→Heap.SameBut it s.heap h'→Q x { s with heap:=h' }):
  wpAny (model prog w) A (Builtin.«tuple_iterator.__next__» ⟨[.ref it],[]⟩) (fun fin s'=>∃v,fin=.done (.ret v)∧Q v s') E s:=by
 obtain⟨o,ho,hc,hd⟩:=id hit;obtain⟨p,hp,_,n,hdp⟩:=ht;have nn:¬ ((Value.ref t==Value.none)=true):=Bool.false_ne_true;refine(show wpAny (model prog w) A (field (.ref it) 0 >>= _) _ E s from wpAny_bind (wpAny_field ho hd (x:=.ref t) rfl ?_));refine(show wpAny (model prog w) A (if(Value.ref t==Value.none)=true then _ else _) _ E s from ?_);rw[if_neg nn];refine(show wpAny (model prog w) A (field (.ref it) 1 >>= _) _ E s from wpAny_bind (wpAny_field ho hd (x:=.int i 0) rfl ?_));refine(show wpAny (model prog w) A (seqItems? (.ref t) >>= _) _ E s from wpAny_bind (wpAny_seqItems hp hdp ?_));simp only[Int.toNat_natCast,hx];have st:∀f,(o.mapFields f).data=.fields (f #[.ref t,.int i 0]):=fun f=>Obj.data_mapFields hd f;refine wpAny_bind (wpAny_setField ho hd (by simp) (wpAny_pure ⟨x,rfl,hQ _ ⟨_,Heap.get?_update_self _ ho (Obj.isFreed_of_fields (Obj.data_mapFields hd _)),?_,?_⟩ (Heap.SameBut.update ..)⟩))
 ·rw[Obj.cls_mapFields];exact hc
 ·rw[Obj.data_mapFields hd];simp[rawInt]
theorem AF{Q:Fin→Shared→Prop}(hh:A.handled=none)(hit:s.heap.IsTupleIter it t i)(ht:s.heap.IsTuple t items)(hx:items[i]? =none)
  (hE:∀h' e,Heap.ExtBut it s.heap h'→(∃o,h'.get? e=some o∧o.cls=.type "StopIteration")→E (.ref e) { s with heap:=h' }):
  wpAny (model prog w) A (Builtin.«tuple_iterator.__next__» ⟨[.ref it],[]⟩) Q E s:=by
 obtain⟨o,ho,hc,hd⟩:=id hit;obtain⟨p,hp,_,n,hdp⟩:=ht;have nn:¬ ((Value.ref t==Value.none)=true):=Bool.false_ne_true;refine(show wpAny (model prog w) A (field (.ref it) 0 >>= _) _ E s from wpAny_bind (wpAny_field ho hd (x:=.ref t) rfl ?_));refine(show wpAny (model prog w) A (if(Value.ref t==Value.none)=true then _ else _) _ E s from ?_);rw[if_neg nn];refine(show wpAny (model prog w) A (field (.ref it) 1 >>= _) _ E s from wpAny_bind (wpAny_field ho hd (x:=.int i 0) rfl ?_));refine(show wpAny (model prog w) A (seqItems? (.ref t) >>= _) _ E s from wpAny_bind (wpAny_seqItems hp hdp ?_));simp only[Int.toNat_natCast,hx];refine wpAny_bind (wpAny_rule (wpAny_bind (wpAny_setField ho hd (by simp) (wpAny_bind ?_))));simp only[newExc,newTuple];refine wpAny_bind (wpAny_newObj_type (wpAny_bind (m:=firstArgMember _ _) (wpAny_of_eq (a:=Value.none) (by first|rfl|(simp only[firstArgMember];rfl)) (wpAny_newObj_type ?_ (by size_fits)))) (by size_fits));simp only[raiseNew];refine wpAny_bind (wpAny_handled ?_);rw[hh];exact wpAny_bind (wpAny_pure (wpAny_throw (hE _ _ (((Heap.SameBut.update ..).extBut.push _).push _) ⟨_,Heap.get?_push_size _ rfl,rfl⟩)))
theorem Ie(hh:A.handled=none)(ne:t≠it):Draws prog w A.in1 it [it,t] items.size (fun j v=>items[j]? =some v) (fun j h=>h.IsTupleIter it t j∧h.IsTuple t items) where
 live:=fun j h st=>by obtain⟨o,ho,_⟩:=st.1;exact⟨o,ho⟩
 frame:=fun j h h' st k=>by obtain⟨⟨o,ho,r⟩,⟨p,hp,q⟩⟩:=st;exact⟨⟨o,k _ (by simp) o ho,r⟩,⟨p,k _ (by simp) p hp,q⟩⟩
 item:=fun j s Q E hj st hQ=>uy st.1 (yR st.1 st.2 (x:=items[j]) (by simp[hj]) fun h' T6 sb=>hQ _ h' s.toks (by simp[hj]) ⟨T6,st.2.extBut sb.extBut ne⟩ sb)
 done:=fun s Q E st hE=>uy st.1 (AF (A:=A.in1.in1) hh st.1 st.2 (by simp) hE)
noncomputable def uQ(a:Addr):Obj:={ cls:=.type "enumerate",data:=.fields #[.none,.bool false,.ref a,rawInt 0,.none,.none] }
noncomputable def tZ(a:Addr):Obj:={ cls:=.type "tuple_iterator",data:=.fields #[.ref a,.int 0 0] }
theorem zn(a:Addr)(xs:Array Value)(o:Obj)(hc:o.cls=.type "tuple")(n:Nat)(hd:o.data=.seq xs n):Meets (Builtin.«enumerate.__new__» ⟨[.type "enumerate",.ref a],[]⟩) (fun _ R s=>s.heap.get? a=some o∧
   R (.ok (.ret (.ref (s.heap.push (tZ a)).objs.size))) { s with heap:=(s.heap.push (tZ a)).push (uQ s.heap.objs.size) }):=
 .of_wp fun P1 w1 A1 R s ⟨hl,h⟩=>by
  cases s with
  |mk hp gs dd tk os=>
  have sub:=sub_enumerate;have tt:Heap.IsTuple hp a xs:=⟨o,hl,hc,n,hd⟩
  wp_walk using AutoSeq1.wpAny_loadPart' hl
  refine wpAny_stack_any fun st=>wpAny_pure ?_
  split
  ·rename_i c _ _ _ _ _
   by_cases e:(c==Value.type "enumerate")=true
   ·rw[e];wp_walk using AutoSeq1.wpAny_loadPart' hl,wpAny_pyIter_tuple tt;exact⟨_,rfl,h⟩
   ·rw[Bool.not_eq_true]at e;rw[e];wp_walk using AutoSeq1.wpAny_loadPart' hl,wpAny_pyIter_tuple tt;exact⟨_,rfl,h⟩
  ·wp_walk using AutoSeq1.wpAny_loadPart' hl,wpAny_pyIter_tuple tt;exact⟨_,rfl,h⟩
theorem wH{Q:Value→Shared→Prop}(ht:s.heap.IsTuple t items)(h:Q (.ref (s.heap.objs.size+1)) { s with heap:=(s.heap.push (tZ t)).push (uQ s.heap.objs.size) }):wpAny (model prog w) A (call (.type "enumerate") [.ref t]) Q E s:=by obtain⟨o,ho,hc,n,hd⟩:=ht;have z:(s.heap.push (tZ t)).objs.size=s.heap.objs.size+1:=Heap.size_push ..;have g:=Heap.get?_push_size (s.heap.push (tZ t)) (o:=uQ s.heap.objs.size) rfl;refine callType_new F.called_enumerate (by decide) (F.typeCall_enumerate_1 _) (F.newCall_enumerate_1 _) (fun obj=>F.args_object_init_2 obj _) F.entry_enumerate_new (zn t items o hc n hd) ⟨ho,?_⟩;exact⟨⟨_,g,rfl⟩,by rw[z];exact h⟩
end
section
variable{X:Cx}{pins:List (Addr×Obj)}{σ:St}{H:Hp}{s:Shared}{h':Heap}
theorem Inv.V0{t':Nat}{c d:Addr}(I:Inv X pins σ H s)(k:∀b o,b≠c→b≠d→s.heap.get? b=some o→h'.get? b=some o)(fc:jT X pins H c)(fd:jT X pins H d):Inv X pins σ H { s with heap:=h',toks:=t' }:=by
 have k2:∀b o,b∉ [c,d]→s.heap.get? b=some o→h'.get? b=some o:=fun b o hb e=>k b o (fun z=>hb (by simp[z])) (fun z=>hb (by simp[z])) e
 have nt:∀b u,H b=some u→b∉ [c,d]:=fun b u e z=>by
  rcases List.mem_cons.mp z with z|z
  ·rw[z,fc.1]at e;cases e
  ·rw[List.mem_singleton.mp z,fd.1]at e;cases e
 have nl:X.env.locals∉ [c,d]:=fun z=>by
  rcases List.mem_cons.mp z with z|z
  ·exact fc.2.1 z.symm
  ·exact fd.2.1 (List.mem_singleton.mp z).symm
 refine I.step (g':=s.gens) (d':=s.drawn) (ch:=[c,d]) (fun b hb=>?_) (fun b o _ _ hc e _=>k2 b o hc e) (fun b o _ _ hc e _=>⟨o.slots,k2 b o hc e⟩) (fun _ _ _ _ n=>n)
  (fun b o hc e=>⟨o,k2 b o hc e⟩) (fun _ _ e=>e) (fun _ _ _ e=>e) (fun b ps e=>⟨#[],by rw[e];simp⟩) (fun m hm=>?_) (fun b u e=>?_) I.bare
 ·rcases List.mem_cons.mp hb with z|z
  ·subst z;exact⟨fc.2.2.2.1,fc.2.1,fc.2.2.2.2.1,fc.2.2.2.2.2⟩
  ·rw[List.mem_singleton.mp z];exact⟨fd.2.2.2.1,fd.2.1,fd.2.2.2.2.1,fd.2.2.2.2.2⟩
 ·obtain⟨o,es,ep,ho,r⟩:=hm;exact⟨o,es,ep,k2 _ o nl ho,r⟩
 ·refine(I.hok b u e).stay (fun c v hc q=>k2 c v ?_ q) (fun _ q=>q) fun _ _ q=>q;rcases hc with z|z
  ·rw[z];exact nt b u e
  ·exact nt c _ z
theorem Inv.Va{t':Nat}{c d a:Addr}{o:HO}(I:Inv X pins σ H s)(k:∀b o,b≠c→b≠d→s.heap.get? b=some o→h'.get? b=some o)(fc:jT X pins H c)(fd:jT X pins H d)(hp:s.heap.objs.size≤a)(new:bE X.prog X.w (upd H a o) h' a o):
  Inv X pins σ (upd H a o) { s with heap:=h',toks:=t' }:=by
 have hn:H a=none:=I.hok.fresh hp;have k2:∀b o,b∉ [c,d]→s.heap.get? b=some o→h'.get? b=some o:=fun b o hb e=>k b o (fun z=>hb (by simp[z])) (fun z=>hb (by simp[z])) e
 have nt:∀b u,H b=some u→b∉ [c,d]:=fun b u e z=>by
  rcases List.mem_cons.mp z with z|z
  ·rw[z,fc.1]at e;cases e
  ·rw[List.mem_singleton.mp z,fd.1]at e;cases e
 have nl:X.env.locals∉ [c,d]:=fun z=>by
  rcases List.mem_cons.mp z with z|z
  ·exact fc.2.1 z.symm
  ·exact fd.2.1 (List.mem_singleton.mp z).symm
 refine I.step (g':=s.gens) (d':=s.drawn) (ch:=[c,d]) (fun b hb=>?_) (fun b o _ _ hc e _=>k2 b o hc e) (fun b o _ _ hc e _=>⟨o.slots,k2 b o hc e⟩) (fun b ob _ q n=>by rw[ai (Nat.ne_of_lt (Nat.lt_of_lt_of_le (Heap.lt_size q) hp))];exact n)
  (fun b o hc e=>⟨o,k2 b o hc e⟩) (fun b xs q=>by rw[ai (ar q hn)];exact q) (fun b u xs q=>by rw[ai (ar q hn)];exact q) (fun b ps q=>⟨#[],by rw[ai (ar q hn),q];simp⟩) (fun m hm=>?_) (fun b u e=>?_) I.bare
 ·rcases List.mem_cons.mp hb with z|z
  ·subst z;exact⟨fc.2.2.2.1,fc.2.1,fc.2.2.2.2.1,fc.2.2.2.2.2⟩
  ·rw[List.mem_singleton.mp z];exact⟨fd.2.2.2.1,fd.2.1,fd.2.2.2.2.1,fd.2.2.2.2.2⟩
 ·obtain⟨o,es,ep,ho,r⟩:=hm;exact⟨o,es,ep,k2 _ o nl ho,r⟩
 ·by_cases hb:b=a
  ·subst hb;rw[aG]at e;cases e;exact new
  ·rw[ai hb]at e;refine(I.hok b u e).stay (fun c v hc q=>k2 c v ?_ q) (fun c q=>by rw[ai (ar q hn)];exact q) fun c xs q=>by rw[ai (ar q hn)];exact q
   rcases hc with z|z
   ·rw[z];exact nt b u e
   ·exact nt c _ z
end
def Ite(sq:Hp→List V→Prop):It:=
 ⟨fun i H=>∃xs x,sq H xs∧xs[i]? =some x,fun i H x H'=>∃p y,H p=none∧x=.ref p∧H'=upd H p (.tup [.int i,y])∧∀xs,sq H xs→xs[i]? =some y,fun i H=>∃xs,sq H xs∧xs.length=i⟩
section
variable{P:Program}{w:World}{K:W.Frag}{elts:List Expr}{k:Nat}{pos:Pos}
structure Src(P:Program)(w:World)(K:W.Frag)(a it:Addr)(sq:Hp→List V→Prop)(ii:Nat→Heap→Prop):Prop where
 obj:∀j h,ii j h→∃o,h.get? it=some o∧∀v,o.data≠.cell v
 keep:∀j h h',ii j h→(∀o,h.get? it=some o→h'.get? it=some o)→ii j h'
 inj:∀(X:Cx) pins σ H s xs ys,X.K=K→Inv X pins σ H s→sq H xs→sq H ys→xs=ys
 get:∀(X:Cx) pins σ H s xs,X.prog=P→X.w=w→X.K=K→X.calm=true→Inv X pins σ H s→sq H xs→∃(its:List Value)(St:Nat→Heap→Prop),aW xs its∧Draws P w X.A.in1 it [it,a] its.length (fun j v=>its[j]? =some v) St∧(∀j,ii j s.heap→St j s.heap)∧∀j h,St j h→ii j h
theorem Dw{a it:Addr}(n2:a≠it):Src P w K a it (fun H xs=>O5 K H a xs) (fun j h=>h.IsTupleIter it a j) where
 obj:=(by rintro j h ⟨o,ho,c,d⟩;exact ⟨o,ho,fun v z=>by rw[d]at z;cases z⟩)
 keep:=(by rintro j h h' ⟨o,ho,r⟩ k;exact ⟨o,k o ho,r⟩)
 inj:=fun X pins σ H s xs ys hK I h1 h2=>by subst hK;exact I.S7 h1 h2
 get:=fun X pins σ H s xs hP hw hK hc I hq=>by subst hP hw hK;obtain⟨its,rv,p,hz⟩:=I.tuple hq;exact⟨its,(fun j h=>h.IsTupleIter it a j∧h.IsTuple a its.toArray),rv,by simpa using Ie (items:=its.toArray) (I.ok.hd hc) n2,fun j q=>⟨q,p⟩,fun j h q=>q.1⟩
theorem Dx{a it:Addr}(n2:a≠it):Src P w K a it (fun H xs=>Og K H a xs) (fun j h=>h.IsListIter it a j) where
 obj:=(by rintro j h ⟨o,ho,c,d⟩;exact ⟨o,ho,fun v z=>by rw[d]at z;cases z⟩)
 keep:=(by rintro j h h' ⟨o,ho,r⟩ k;exact ⟨o,k o ho,r⟩)
 inj:=fun X pins σ H s xs ys hK I h1 h2=>by subst hK;exact I.Tz h1 h2
 get:=fun X pins σ H s xs hP hw hK hc I hq=>by subst hP hw hK;obtain⟨its,rv,p,hz⟩:=I.list hq;exact⟨its,(fun j h=>h.IsListIter it a j∧h.IsList a its.toArray),rv,by simpa using Draws.list (A:=X.A.in1) (I.ok.hd hc) it a n2 its.toArray,fun j q=>⟨q,p.isList⟩,fun j h q=>q.1⟩
theorem qe{sq:Hp→List V→Prop}{ii:Nat→Heap→Prop}{a e it:Addr}(S:Src P w K a it sq ii)(ne:e≠it)(n1:a≠e):zW P w K (.Tuple elts k pos) (Ite sq) [e,it] e (fun i h=>(∃old,IsEnum h e it i old)∧ii i h) where
 mem:=by simp
 obj:=fun i h st b hb=>by
  obtain⟨⟨old,he⟩,hi⟩:=st;rcases List.mem_cons.mp hb with z|z
  ·subst z;exact⟨_,he,fun v z=>by cases z⟩
  ·rw[List.mem_singleton.mp z];exact S.obj _ _ hi
 keep:=fun i h h' st q=>by obtain⟨⟨old,he⟩,hi⟩:=st;exact⟨⟨old,q e (by simp) _ he⟩,S.keep _ _ _ hi fun o ho=>q it (by simp) _ ho⟩
 item:=by
  intro X hP hw hK hc i pins s σ H E I hf st hg;obtain⟨xs,x,hq,hx⟩:=hg;obtain⟨⟨old,he⟩,hi⟩:=st;obtain⟨its,St,rv,D,t1,t2⟩:=S.get X pins σ H s xs hP hw hK hc I hq;subst hP hw hK;obtain⟨u,hu,ru⟩:=rv.get hx;have fe:=hf e (by simp);have fi:=hf it (by simp)
  have SM:i<its.length:=by
   rcases Nat.lt_or_ge i its.length with z|z
   ·exact z
   ·rw[List.getElem?_eq_none z]at hu;cases hu
  refine wpAny_pyNext_enum_itemD D he (t1 _ hi) SM ne (by simp[ne,Ne.symm n1]) fun u' h' tk Wn ho Uu ht hsz hk=>?_;have:u'=u:=by rw[hu]at Wn;cases Wn;rfl
  subst this;refine⟨_,rfl,?_⟩;refine wpAny_letOwnedTupleGo_enum ho fun h2 he2 sb=>?_;have lt:e<s.heap.objs.size:=Heap.lt_size he;have fr:H s.heap.objs.size=none:=I.hok.fresh (ab2 _);have kk:∀b o,b≠e→b≠it→s.heap.get? b=some o→h2.get? b=some o:=fun b o b1 b2 q=>(sb.2 b b1).trans (hk b o b1 b2 q);have ht2:h2.get? s.heap.objs.size=some { cls:=.type "tuple",data:=.seq #[.int i tk,u'] }:=(sb.2 _ (Nat.ne_of_gt lt)).trans ht;have hok:bE X.prog X.w (upd H s.heap.objs.size (.tup [.int i,x])) h2 s.heap.objs.size (.tup [.int i,x]):=⟨by show 2≤sizeLine;decide,[.int i tk,u'],.cons ⟨tk,rfl⟩ (.cons ru .nil),⟨_,ht2,rfl,_,rfl⟩⟩
  refine⟨.ref s.heap.objs.size,upd H s.heap.objs.size (.tup [.int i,x]),I.Va kk fe fi (ab2 _) hok,rfl,⟨_,x,fr,rfl,rfl,fun ys hy=>by rw[S.inj X pins σ H s _ _ rfl I hy hq];exact hx⟩,⟨⟨u',by simpa using he2⟩,S.keep _ _ _ (t2 _ _ Uu) fun o q=>(sb.2 it (Ne.symm ne)).trans q⟩,fun b hb=>?_⟩
  rw[ai (fun z=>by
   have lb:b<s.heap.objs.size:=by
    rcases List.mem_cons.mp hb with y|y
    ·rw[y];exact lt
    ·rw[List.mem_singleton.mp y];obtain⟨o,ho,_⟩:=S.obj _ _ hi;exact Heap.lt_size ho
   exact absurd z (Nat.ne_of_lt lb))]
  exact(hf b hb).1
 done:=by
  intro X hP hw hK hc i pins s σ H E I hf st hg;obtain⟨xs,hq,hx⟩:=hg;obtain⟨⟨old,he⟩,hi⟩:=st;obtain⟨its,St,rv,D,t1,t2⟩:=S.get X pins σ H s xs hP hw hK hc I hq;subst hP hw hK;have fe:=hf e (by simp);have fi:=hf it (by simp);have hl:=rv.length;have sz:its.length=i:=by omega
  subst sz;exact wpAny_pyNext_enum_endD D he (t1 _ hi) fun h' eb=>⟨rfl,I.V0 (t':=s.toks) (fun b o _ b2 q=>eb b o b2 q) fe fi⟩
 self:=fun A i s Q E st h=>by obtain⟨⟨old,he⟩,_⟩:=st;exact wpAny_pyIter_enum he h
end
section
variable{X:Cx}{elts:List Expr}{k:Nat}{pos p p1:Pos}
def Mf(K:W.Frag)(ta:TA):TI:=fun σ H R=>ta σ H fun vs H1=>∃a,vs= [.ref a]∧(∃xs,O5 K H1 a xs)∧R (Ite fun H xs=>O5 K H a xs) H1
def Mg(K:W.Frag)(ta:TA):TI:=fun σ H R=>ta σ H fun vs H1=>∃a,vs= [.ref a]∧(∃xs,Og K H1 a xs)∧R (Ite fun H xs=>Og K H a xs) H1
theorem Bm{a:Expr}{ta:TA}(hg:Gl X "enumerate")(hm:X.mg "enumerate"=none)(ha:PA X [a] ta)(hs:starEach [a] X.env= [(false,eval a X.env)]:=by rfl):PI X (.Tuple elts k pos) (.Call (.Name "enumerate" p) [a] [] p1) (Mf X.K ta):=by
 intro pins s σ H R I h;refine Call_ (gQ I hg hm (show bootBuiltins "enumerate"=some (.type "enumerate") by decide+kernel) (PyProof.Rows.callWith_type1 (I_ (ha p1 pins s σ H _ I h) ?_) hs rfl));rintro us s1 ⟨vs,H1,I1,r1,q1⟩;obtain⟨a,e,⟨xs,hq⟩,q⟩:=q1;subst e
 cases r1 with
 |cons r rr=>
  cases rr
  cases r
  obtain⟨its,rv,t,hz⟩:=I1.tuple hq;refine wH (show s1.heap.IsTuple a its.toArray from t) ?_;have z:(s1.heap.push (tZ a)).objs.size=s1.heap.objs.size+1:=Heap.size_push ..;have g:=Heap.get?_push_size (s1.heap.push (tZ a)) (o:=uQ s1.heap.objs.size) rfl;rw[z]at g;have kk:∀b o,s1.heap.get? b=some o→((s1.heap.push (tZ a)).push (uQ s1.heap.objs.size)).get? b=some o:=fun b o e=>Heap.get?_push_of_some _ (Heap.get?_push_of_some _ e);have la:a<s1.heap.objs.size:=by obtain⟨o,ho,_⟩:=t;exact Heap.lt_size ho
  refine wpAny_pyIter_enum (it:=s1.heap.objs.size) (i:=0) (old:=.none) g ?_;refine⟨s1.heap.objs.size+1,[s1.heap.objs.size+1,s1.heap.objs.size],_,_,H1,rfl,I1.kept (t':=s1.toks) kk,qe (Dw (a:=a) (Nat.ne_of_lt la)) (Nat.succ_ne_self _) (Nat.ne_of_lt (Nat.lt_succ_of_lt la)),⟨⟨_,g⟩,⟨_,Heap.get?_push_of_some _ (Heap.get?_push_size _ rfl),rfl,rfl⟩⟩,fun b hb=>?_,q⟩
  have UJ:s1.heap.objs.size≤b:=by
   rcases List.mem_cons.mp hb with y|y
   ·rw[y];exact Nat.le_succ _
   ·rw[List.mem_singleton.mp y];exact ab2 _
  exact I1.Ug UJ (I1.hok.fresh UJ)
theorem Bo{a:Expr}{ta:TA}(hg:Gl X "enumerate")(hm:X.mg "enumerate"=none)(ha:PA X [a] ta)(hs:starEach [a] X.env= [(false,eval a X.env)]:=by rfl):PI X (.Tuple elts k pos) (.Call (.Name "enumerate" p) [a] [] p1) (Mg X.K ta):=by
 intro pins s σ H R I h;refine Call_ (gQ I hg hm (show bootBuiltins "enumerate"=some (.type "enumerate") by decide+kernel) (PyProof.Rows.callWith_type1 (I_ (ha p1 pins s σ H _ I h) ?_) hs rfl));rintro us s1 ⟨vs,H1,I1,r1,q1⟩;obtain⟨a,e,⟨xs,hq⟩,q⟩:=q1;subst e
 cases r1 with
 |cons r rr=>
  cases rr
  cases r
  obtain⟨its,rv,t,hz⟩:=I1.list hq;have t:=t.isList;have la:a<s1.heap.objs.size:=by obtain⟨o,ho,_⟩:=t;exact Heap.lt_size ho
  refine call_enumerate_list t fun h2 hE hI hsz kk=>?_;refine wpAny_pyIter_enum hE ?_;refine⟨s1.heap.objs.size+1,[s1.heap.objs.size+1,s1.heap.objs.size],_,_,H1,rfl,I1.kept (t':=s1.toks) kk,qe (Dx (a:=a) (Nat.ne_of_lt la)) (Nat.succ_ne_self _) (Nat.ne_of_lt (Nat.lt_succ_of_lt la)),⟨⟨_,hE⟩,hI⟩,fun b hb=>?_,q⟩
  have UJ:s1.heap.objs.size≤b:=by
   rcases List.mem_cons.mp hb with y|y
   ·rw[y];exact Nat.le_succ _
   ·rw[List.mem_singleton.mp y];exact ab2 _
  exact I1.Ug UJ (I1.hok.fresh UJ)
end
end L2
namespace L3
open PySem PySem.Spec PyProof.Rows L2
noncomputable def Rh:Nat→List PV→List PV
 |_,[]=>[]
 |n,x::r=>.tup [.int n,x]::Rh (n+1) r
theorem nQ:∀(xs:List PV)(n:Nat),(Rh n xs).length=xs.length
 |[],_=>rfl
 |_::r,n=>by simp[Rh,nQ r]
theorem yk:∀(xs:List PV)(n i:Nat),(Rh n xs)[i]? =xs[i]?.map fun x=>PV.tup [.int ((n+i:Nat):Int),x]
 |[],_,_=>by simp[Rh]
 |x::r,n,0=>by simp[Rh]
 |x::r,n,i+1=>by simp only[Rh,List.getElem?_cons_succ,yk r];congr 2;funext y;congr 3;omega
section
variable{K:W.Frag}{T:Tab}{F H:Hp}{m:List Addr}
theorem uN{sq:Hp→List V→Prop}{xs:List PV}{vs:List V}(st:∀F1 H1,cD F F1→cD F1 H1→sq H1 vs)(r:ak K T F m xs vs):wQ K T (Ite sq) (Rh 0 xs) F m H:=by
 have at':∀{F1:Hp}{m1:List Addr}{h1:List PO}{H1:Hp},aX F m H F1 m1 H1→RelH K T F1 m1 h1 H1→sq H1 vs:=fun s R=>st _ _ s.fz R.same;refine⟨fun i F1 m1 h1 H1 s R hi=>?_,fun i F1 m1 h1 H1 v H2 s R hi y=>?_,fun F1 m1 h1 H1 s R=>⟨vs,at' s R,by rw[nQ,r.length]⟩⟩
 ·rw[nQ,r.length]at hi;exact⟨vs,vs[i],at' s R,List.getElem?_eq_getElem hi⟩
 ·obtain⟨p,y,hp,rfl,rfl,q⟩:=y;rw[nQ]at hi;obtain⟨v',Uv,Ws⟩:=r.get (List.getElem?_eq_getElem hi);have:v'=y:=by have z:=q vs (at' s R);rw[Uv]at z;cases z;rfl
  subst this;obtain⟨s2,R2⟩:=aX.lay (o:=.tup [.int i,v']) R hp;refine⟨_,_,.tup [.int i,xs[i]],s2,R2,?_,.tup (.inl (.inl aG)) (.cons (.int i) (.cons (s2.rep (s.rep Ws)) .nil))⟩;rw[yk,List.getElem?_eq_getElem hi];simp
end
def Ic(ps:List PV)(h:List PO):Res (List PV):=match ps with
 |[.tup xs]=>.ok (Rh 0 xs) h
 |[.lst xs]=>.ok (Rh 0 xs) h
 |_=>.bad
def lU(f:Ax):Ax:=fun ρ h=>(f ρ h).bind Ic
section
variable{X:Cx}{T:Tab}{Ew:XK}{a:Expr}{elts:List Expr}{f:Ax}{k:Nat}{pos p p1:Pos}
theorem rN(hg:Gl X "enumerate")(hm:X.mg "enumerate"=none)(ha:RA X T Ew [a] f)(hs:starEach [a] X.env= [(false,eval a X.env)]:=by rfl):RI X T Ew (.Tuple elts k pos) (.Call (.Name "enumerate" p) [a] [] p1) (lU f):=by with_unfolding_all
 intro pins s σ H R I ⟨F,m,ρ,h,RR,w⟩
 by_cases ht:∃xs h1,f ρ h=.ok [.tup xs] h1
 ·obtain⟨xs,h1,e⟩:=ht;refine Bm hg hm ha hs pins s σ H R I ⟨F,m,ρ,h,RR,?_⟩;unfold lU at w;rw[e]at w ⊢;intro F1 m1 H1 x s1 R1 r1;have w1:=aD.step s1 (show aD X.K T _ F m H R Ew (.ok (Rh 0 xs) h1)from w)
  cases r1 with
  |cons r rr=>
   cases rr
   cases r with
   |tup sq rs=>exact⟨_,rfl,⟨_,R1.same.Rt sq⟩,aD.here w1 R1 fun H=>uN (fun F1 H1 a b=>b.Rt (a.Rt sq)) rs⟩
 ·refine Bo hg hm ha hs pins s σ H R I ⟨F,m,ρ,h,RR,?_⟩;unfold lU at w
  cases e:f ρ h with
  |bad=>rw[e]at w;exact w
  |exc v h1=>rw[e]at w;exact w
  |ok ps h1=>
   rw[e]at w;intro F1 m1 H1 x s1 R1 r1;have w1:=aD.step s1 (show aD X.K T _ F m H R Ew (Ic ps h1)from w);unfold Ic at w1
   split at w1
   ·exact(ht ⟨_,_,e⟩).elim
   ·cases r1 with
    |cons r rr=>
     cases rr
     cases r with
     |lst sq rs=>have q:Og X.K F1 _ _:=.inl (.inl sq);exact⟨_,rfl,⟨_,R1.same.seq q⟩,aD.here w1 R1 fun H=>uN (fun F1 H1 a b=>b.seq (a.seq q)) rs⟩
   ·exact w1.elim
end
end L3
namespace L2
open PySem PySem.Spec PyProof.Rows
end L2
namespace L3
open PySem PySem.Spec PyProof.Rows L2
end L3
namespace HT
open PySem PySem.Spec PyProof.Rows
section
variable{prog:Program}{w:World}{A:Around}{E:Value→Shared→Prop}{s:Shared}
theorem Q8{t sl:Addr}{items:Array Value}{vl vu:Value}{lo hi:Option Int}{Q:Value→Shared→Prop}(ht:IsTup s.heap t items)(hs:s.heap.IsSliceOf sl vl vu .none)(pl:IsPart vl lo)(pu:IsPart vu hi)
  (hw:J9 items.size 0 lo=0∧J9 items.size items.size hi=items.size) (h:Q (.ref t) s):wpAny (model prog w) A (getItem (.ref t) (.ref sl)) Q E s:=by
 obtain⟨os,V9,Zk,Yo⟩:=id hs;have hTs:s.TypeIs (.ref sl) "slice":=⟨os,V9,Zk⟩
 unfold getItem
 try with_reducible refine wpAny_holding ?_
 first|refine wpAny_bind (wpAny_pure ?_)|skip
 refine wpAny_bind (wpAny_sequenceKey ht.typeIs (by decide) ?_)
 refine wpAny_bind (wpAny_callSpecial?_slot (name:=Str.ofString "__getitem__") ht.typeIs PyProof.Rows.slot_tuple_getitem
  (wpAny_call_entry PyProof.Rows.slot_tuple_getitem ht.typeIs entry_tuple_getitem ?_ (args_tuple_getitem _ _)))
 show wpAny _ _ (Builtin.Tuple.tupleItemsOf (.ref t) >>= _) _ _ s;refine wpAny_bind (tupleItemsOf_ ht ?_);refine wpAny_bind (wpAny_typeOf hTs ?_);rw[if_pos (by decide)];refine wpAny_bind (gX hs pl pu ?_)
 have yes:(((J9 items.size 0 lo:Nat):Int)==0&&(1:Int)==1&&(J9 items.size items.size hi - J9 items.size 0 lo)==items.size)=true:=by rw[hw.1,hw.2];simp
 show wpAny _ _ (if(((J9 items.size 0 lo:Nat):Int)==0&&(1:Int)==1&&(J9 items.size items.size hi - J9 items.size 0 lo)==items.size)=true then _ else _) _ _ s;rw[if_pos yes];obtain⟨⟨ct,dt,da,T9⟩,hot,Zj,n,hdt⟩:=id ht
 cases(show ct=Value.type "tuple" from Zj)
 wp_walk using AutoSeq1.wpAny_loadPart' hot
 exact⟨_,rfl,wpAny_pure h⟩
end
end HT
namespace L2
open PySem PySem.Spec PyProof.Rows
def IZ(K:W.Frag):V→Option Int→Option Int→Hp→VK→Prop:=fun x lo hi H Q=>∃a xs,x=.ref a∧O5 K H a xs∧(HT.J9 xs.length 0 lo=0∧HT.J9 xs.length xs.length hi=xs.length)∧Q (.ref a) H
theorem GC{X:Cx}:U8 X (IZ X.K):=by
 intro pins s σ H x v vl vu lo hi sl Q I rx hs pl pu h;obtain⟨a,xs,rfl,hx,hw,q⟩:=h
 cases rx
 obtain⟨its,r,ht,hz⟩:=I.tuple hx;have L_:its.toArray.size=xs.length:=by rw[List.size_toArray];exact r.length.symm
 exact⟨"tuple",_,PyProof.Rows.slot_tuple_getitem.lookup,ht.typeIs,HT.Q8 ht hs pl pu (by rw[L_];exact hw) ⟨.ref a,H,I,rfl,q⟩⟩
end L2
namespace L3
open PySem PySem.Spec PyProof.Rows L2
def lg(p:PV)(lo hi:Option Int)(h:List PO):Res PV:=match p with
 |.tup xs=>if HT.J9 xs.length 0 lo=0∧HT.J9 xs.length xs.length hi=xs.length then .ok (.tup xs) h else .ok (.tup (cut xs lo hi)) h
 |p=>Y5 p lo hi h
def mP(a:Ex)(lo hi:Ox):Ex:=fun ρ h=>(a ρ h).bind fun p h1=>(lo ρ h1).bind fun l h2=>(hi ρ h2).bind fun u h3=>lg p l u h3
section
variable{X:Cx}{T:Tab}{Ew:XK}{a:Expr}{fa:Ex}{pos:Pos}
theorem Bc{K:W.Frag}{F H:Hp}{m:List Addr}{h:List PO}{Q:VK}{p:PV}{x:V}{lo hi:Option Int}(R:RelH K T F m h H)(rp:aF K T F m p x)(w:aD K T (aF K T) F m H Q Ew (lg p lo hi h)):Jd K x lo hi H Q∨IZ K x lo hi H Q:=by
 unfold lg at w
 split at w
 ·rename_i xs
  split at w
  ·rename_i hz;obtain⟨a,vs,rfl,ea,ra⟩:=eR R rp;refine .inr ⟨a,vs,rfl,ea,by rw[← ra.length];exact hz,?_⟩;exact aD.here w R rp
  ·rename_i hz;refine .inl (xB (Ew:=Ew) R rp ?_);unfold Y5;dsimp only;rw[if_neg hz];exact w
 ·exact .inl (xB R rp w)
theorem yT{lo hi:Option Expr}{fl fu:Ox}{p2:Pos}(ha:RE X T Ew a fa)(hl:RO X T Ew lo fl)(hh:RO X T Ew hi fu):RE X T Ew (.Subscript a (.Slice lo hi none p2) pos) (mP fa fl fu):=by with_unfolding_all
 refine PE.imp (Bq (L2.U8.or (L2.U8.or GB (L2.U8.or GA Dz)) GC) ha hl hh) ?_;rintro σ H Q ⟨F,m,ρ,h,R,p⟩;refine⟨F,m,ρ,h,R,(aD.bind p).mono ?_⟩;rintro x H1 ⟨F1,m1,h1,p1,s1,R1,r1,w1⟩;refine⟨F1,m1,ρ,h1,R.of s1 R1,(aD.bind w1).mono ?_⟩;rintro l H2 ⟨F2,m2,h2,l2,s2,R2,e2,w2⟩;subst e2;refine⟨F2,m2,ρ,h2,(R.of s1 R1).of s2 R2,(aD.bind w2).mono ?_⟩;rintro u H3 ⟨F3,m3,h3,u3,s3,R3,e3,w3⟩;subst e3;exact Bc R3 (s3.rep (s2.rep r1)) w3
end
noncomputable def Rc(K:W.Frag)(T:Tab)(np:Nat)(fn:List PV→Res PV):Sp:=fun vs H Q _=>∃F ps,ps.length=np∧cD F H∧ak K T F [] ps vs∧aD K T (aF K T) F [] H Q (fun _ _ _=>False) (fn ps)
theorem rn{K:W.Frag}{T:Tab}{np:Nat}{fn:List PV→Res PV}{vs:List V}{H:Hp}{Q:VK}{E:XK}(h:Rc K T np fn vs H Q E):vs.length=np:=by obtain⟨F,ps,e,_,r,_⟩:=h;rw[← r.length];exact e
end L3
namespace L2
open PySem PySem.Spec PyProof.Rows
end L2
namespace L3
open PySem PySem.Spec PyProof.Rows L2
end L3
namespace L2
open PySem PySem.Spec PyProof.Rows
end L2
namespace L3
open PySem PySem.Spec PyProof.Rows L2
end L3
namespace L2
open PySem PySem.Spec PyProof.Rows
end L2
namespace L3
open PySem PySem.Spec PyProof.Rows L2
end L3
namespace L2
open PySem PySem.Spec PyProof.Rows
section
variable{X:Cx}
theorem CN(hc:X.calm=true):dh X (.builtin "any") (fun xs H Q=>∃(p:Addr)(bs:List Bool),xs= [.ref p]∧Og X.K H p (bs.map V.bl)∧Q (.bl (bs.any id)) H):=by
 intro pins s σ H xs us Q I r h;obtain⟨p,bs,rfl,hq,q⟩:=h;obtain⟨u,rfl,ru⟩:=r.one
 cases ru
 obtain⟨its,r',pl,hz⟩:=I.list hq;have hl:=pl.isList;have hb:=uZ r';have SM:p<s.heap.objs.size:=by obtain⟨_,e,_⟩:=hl;exact Heap.lt_size e
 refine call_any_walk (wpAny_pyIter_list hl ?_)
 refine⟨s.heap.objs.size,[s.heap.objs.size,p],[s.heap.objs.size],its.toArray.size,_,_,fun i=>(bs[i]?).getD false,rfl,Walks.list (A:=X.A.in1) (I.ok.hd hc) _ p (Nat.ne_of_lt SM) its.toArray,
  ⟨⟨_,Heap.get?_push_size _ rfl,rfl,rfl⟩,hl.push _⟩,fun i v s' Q' E' hP hQ=>?_,fun h' tk hk=>?_⟩
 ·obtain⟨b,e,rfl⟩:=hb.get i v (by simpa using hP);simp only[e,Option.getD_some]at hQ;exact wpAny_truthy_bool hQ
 ·have e:((List.range its.toArray.size).any fun i=>(bs[i]?).getD false)=bs.any id:=by rw[List.size_toArray,hb.length];exact LSm.range_any bs
  rw[e];exact⟨.bl _,H,I.kept (t':=tk) (LSm.kept_iter hk),rfl,q⟩
end
end L2
namespace L3
open PySem PySem.Spec PyProof.Rows L2
section
variable{X:Cx}{T:Tab}{Ew:XK}{e:Expr}{es:List Expr}{f:Ax}{pos p0:Pos}
def Ei(ps:List PV)(h:List PO):Res PV:=match ps with
 |[p]=>match Tp h p with
  |some xs=>match eX xs with
   |some bs=>.ok (.bl (bs.any id)) h
   |none=>.bad
  |none=>.bad
 |_=>.bad
theorem GX(hg:Gl X "any")(hm:X.mg "any"=none)(ha:RA X T Ew (e::es) f)(hc:X.calm=true:=by rfl)
  (he:sE0 X e es:=by rfl) (Oc:sP0 X es pos:=by rfl):
  RE X T Ew (.Call (.Name "any" p0) (e::es) [] pos) (cN Ei f):=by with_unfolding_all exact(
  jf (CN hc) (by
 intro F m h H xs ps Q Ew R rp w;unfold Ei at w
 split at w
 ·rename_i p;obtain⟨x,rfl,rx⟩:=rp.one
  cases e1:Tp h p with
  |none=>rw[e1]at w;exact w.elim
  |some ys=>
   rw[e1]at w
   cases e2:eX ys with
   |none=>simp only[e2]at w;exact w.elim
   |some bs=>simp only[e2]at w;obtain⟨a,vs,rfl,ea,ra⟩:=eU R rx e1;have ev:=mX e2 ra;subst ev;exact⟨a,bs,rfl,ea,aQ w R (.bl _)⟩
 ·exact w.elim) hg hm (by decide+kernel) ha (by decide) (by decide) he Oc)
def Ge(K:W.Frag)(a:Addr)(ps:List PV):Prop:=∃(o:Obj)(its:Array Value)(n:Nat)(vs:List V),K.lookup a=some o∧o.cls=.type "tuple"∧o.data=.seq its n∧its.size≤sizeLine∧aW vs its.toList∧∀(T:Tab)(F:Hp)(m:List Addr),ak K T F m ps vs
theorem AM{x:Str}{a:Addr}{ps:List PV}(hg:Gl X x)(hm:X.mg x=some (.ref a))(g:Ge X.K a ps)(hd:nD0 x:=by decide):RE X T Ew (.Name x pos) (cK (.tup ps)):=by
 obtain⟨o,its,n,vs,h1,h2,h3,h4,h5,h6⟩:=g
 with_unfolding_all exact(fB (rX (v:=.ref a) hg hm rfl hd) fun F m=>.tup (.inr ⟨o,its,n,h1,h2,h3,h4,h5⟩) (h6 T F m))
end
end L3
namespace L2
open PySem PySem.Spec PyProof.Rows
theorem yI:fillsNumberSlot (.type "tuple") "mul"=pure false:=by kernel_rfl
theorem tY:seqRepeat? (.type "tuple")=pure (some (.builtin "tuple.__mul__")):=by kernel_rfl
theorem vH(a:Int)(t:Tok)(l:Addr)(its:Array Value)(n:Nat)(dd:Option Addr)(sl:Array (Option Value)):
  Meets (Builtin.«int.__rmul__» ⟨[.int a t,.ref l],[]⟩) (fun _ R s=>s.heap.get? l=some { cls:=.type "tuple",dict:=dd,data:=.seq its n,slots:=sl }∧R (.ok (.ret Value.notImplemented)) s):=
 .of_wp fun prog w A R s h=>by
  obtain⟨hp,g,d,tk,os⟩:=s;obtain⟨hl,h⟩:=h
  wp_walk
  exact⟨_,rfl,h⟩
theorem yH(l:Addr)(its:List Value)(n:Nat)(dd:Option Addr)(sl:Array (Option Value))(k:Int)(t:Tok)(h1: -(2 ^ 63)≤k)(h2:k<2 ^ 63)(hz:its.length * k.toNat≤sizeLine):
  Meets (Builtin.«tuple.__mul__» ⟨[.ref l,.int k t],[]⟩) (fun _ R s=>s.heap.get? l=some { cls:=.type "tuple",dict:=dd,data:=.seq its.toArray n,slots:=sl }∧
   ((its= []∨k=1)→R (.ok (.ret (.ref l))) s)∧R (.ok (.ret (.ref s.heap.objs.size))) { s with heap:=s.heap.push { cls:=.type "tuple",data:=.seq (List.replicate k.toNat its).flatten.toArray } }):=
 .of_wp fun prog w A R s h=>by
  obtain⟨hp,g,d,tk,os⟩:=s;obtain⟨hl,q1,q2⟩:=h;have f1:=AutoSeq1.idx_int;have f2:=AutoSeq1.sub_tuple_tuple;have b1:¬ ((decide (k< -(2 ^ 63))||decide (k≥2 ^ 63))=true):=by simp;omega
  unfold Builtin.«tuple.__mul__»
  wp_walk using AutoSeq1.wpAny_loadPart' hl
  rw[if_neg b1]
  wp_walk using AutoSeq1.wpAny_loadPart' hl
  have em:its.toArray.isEmpty=its.isEmpty:=by cases its<;>rfl
  have fr:∀xs:Array Value,xs.size≤sizeLine→xs=(List.replicate k.toNat its).flatten.toArray→wpAny (model prog w) A.in1 (Builtin.Tuple.tupleExact xs >>= fun v=>ret v) (fun fin s'=>∃v,fin=Fin.done (Flow.ret v)∧R (Except.ok (Flow.ret v)) s') (fun e s'=>R (Except.error e) s') ⟨hp,g,d,tk,os⟩:=fun xs hx e=>by unfold Builtin.Tuple.tupleExact;subst e;exact wpAny_bind (wpAny_newObj_type (wpAny_pure ⟨_,rfl,q2⟩) hx)
  by_cases c:(its.toArray.isEmpty||k==1)=true
  ·rw[if_pos c]
   wp_walk using AutoSeq1.wpAny_loadPart' hl
   refine⟨_,rfl,q1 ?_⟩;rw[Bool.or_eq_true,em,List.isEmpty_iff,beq_iff_eq]at c;exact c
  ·rw[if_neg c];rw[Bool.or_eq_true,not_or,em,List.isEmpty_iff]at c
   by_cases c2:(decide (k≤0)||its.toArray.isEmpty)=true
   ·rw[if_pos c2];rw[Bool.or_eq_true,em,List.isEmpty_iff]at c2
    have k0:k.toNat=0:=by
     rcases c2 with z|z
     ·have:=of_decide_eq_true z;omega
     ·exact absurd z c.1
    exact fr #[] (Nat.zero_le _) (by rw[k0];rfl)
   ·rw[if_neg c2]
    have e2:(its.toArray.size:Int) * k=((its.length * k.toNat:Nat):Int):=by
     have:((k.toNat:Nat):Int)=k:=Int.toNat_of_nonneg (by simp only[Bool.or_eq_true,not_or,decide_eq_true_eq]at c2;omega)
     rw[List.size_toArray];push_cast;rw[this]
    have sl8:(sizeLine:Nat)≤(2 ^ 63 - 1) / 8:=by decide
    rw[if_neg (by rw[e2];intro z;have:(its.length * k.toNat:Nat)≤(2 ^ 63 - 1) / 8:=Nat.le_trans hz sl8;omega)];rw[if_neg (by rw[e2];unfold Builtin.Tuple.tupleTooMany;intro z;have:=of_decide_eq_true z;have h3:((its.length * k.toNat:Nat):Int)≤(sizeLine:Nat):=Int.ofNat_le.mpr hz;omega)]
    have hf:List.foldl (fun x1 x2=>x1++x2) #[] (List.replicate k.toNat its.toArray)=(List.replicate k.toNat its).flatten.toArray:=by have:=mK its k.toNat [];rw[List.nil_append]at this;exact this
    refine fr _ ?_ hf;rw[hf,List.size_toArray,sA,Nat.mul_comm];exact hz
section
variable{X:Cx}
def Fv(K:W.Frag):R2:=fun x y H Q=>∃l k xs,x=.ref l∧y=.int k∧O5 K H l xs∧ -(2 ^ 63)≤k∧k<2 ^ 63∧xs.length * k.toNat≤sizeLine∧
 ((xs= []∨k=1)→Q (.ref l) H)∧∀p,H p=none→Q (.ref p) (upd H p (.tup (List.replicate k.toNat xs).flatten))
theorem Ej:Ov X (binaryOp .Mult) (Fv X.K):=by
 intro pins s σ H x y v u Q I rx ry h;obtain⟨l,k,xs,rfl,rfl,hq,h1,h2,hz,q1,q2⟩:=h
 cases rx
 obtain⟨t,rfl⟩:=ry;obtain⟨its,r,p,_⟩:=I.tuple hq;obtain⟨o,ho,hc,n,hd⟩:=p;obtain⟨oc,od,X4,Rz⟩:=o;dsimp only at hc hd;subst hc hd;have ln:=r.length
 refine wpAny_binaryOp_repeat_ref (T:="tuple") (U:="int") (by decide) ⟨_,ho,rfl⟩ (fun s'=>typeIs_int s' k t) yI F.fills_int_mul F.slot_int_rmul tY F.slot_int_index.lookup
  (call_meets F.slot_int_rmul (typeIs_int s k t) F.entry_int_rmul (F.args_int_rmul_2 _ _) (vH k t l its.toArray n od Rz)
   ⟨ho,rfl,⟨_,ho,rfl⟩,call_meets F.slot_tuple_mul ⟨_,ho,rfl⟩ F.entry_tuple_mul (F.args_tuple_mul_2 _ _) (yH l its n od Rz k t h1 h2 (by rw[← ln];exact hz)) ⟨ho,fun c=>?_,?_⟩⟩)
 ·exact⟨.ref l,H,I,rfl,q1 (c.imp (fun z=>r.Q0.mp z) id)⟩
 ·refine⟨.ref s.heap.objs.size,_,I.laid (t':=s.toks) (o:=.tup (List.replicate k.toNat xs).flatten) (fun b ob q=>Heap.get?_push_of_some _ q) (ab2 _) ?_,rfl,q2 _ (I.hok.fresh (ab2 _))⟩;exact⟨by rw[sA,Nat.mul_comm];exact hz,_,r.rep k.toNat,IsTup.new _ _⟩
end
section
variable{P:Program}{w:World}{A:Around}{E:Value→Shared→Prop}{s:Shared}
theorem yN{b:Bool}{l:Addr}{its:Array Value}{zs:List Str}(hh:A.handled=none)(hl:IsTup s.heap l its)(r:aW (zs.map V.str) its.toList)(few:its.size+1<scanBound):
  codeAny (model P w) A (.call (.builtin "set.__init__") ⟨[.ref s.heap.objs.size,.ref l],[]⟩)
   (wants (fun u s2=>u=.none∧∃h' tk,s2= { s with heap:=h',toks:=tk }∧tH P w s s.heap.objs.size zs its.size h') E) { s with heap:=s.heap.push (gY b) }:=by
 have Qu:(s.heap.push (gY b)).get? s.heap.objs.size=some (gY b):=Heap.get?_push_size _ rfl;refine codeAny_call_builtin F.called_set.init.plain F.entry_set_init (check_set_init_1 ⟨_,Qu,rfl⟩ ?_);obtain⟨⟨oc,od,X4,Rz⟩,q,c1,c,c2⟩:=hl
 cases c1
 cases c2
 have q':(s.heap.push (gY b)).get? l=some { cls:=.type "tuple",dict:=od,data:=.seq its c,slots:=Rz }:=Heap.get?_push_of_some _ q;have n1:=F.sub_tuple_set;have n2:=F.sub_tuple_frozenset;have n3:(Value.type "tuple"==Value.type "dict")=false:=by decide
 have ll:l<s.heap.objs.size:=Heap.lt_size q;have Yc:(s.heap.push (gY b)).IsTuple l its:=⟨_,q',rfl,c,rfl⟩
 unfold Builtin.«set.__init__» noKeywords Builtin.Frozenset.updateFrom;generalize gi:pyIter=iter
 wp_walk
 subst gi;apply wpAny_pyIter_tuple Yc;refine wpAny_bind<|wpAny_runValue ?_
 have sz:(s.heap.push (gY b)).objs.size=s.heap.objs.size+1:=Heap.size_push _ _
 have ne1:l≠(s.heap.push (gY b)).objs.size:=fun z=>by rw[sz]at z;exact Nat.lt_irrefl _ (Nat.lt_trans (z▸ll) (Nat.lt_succ_self _))
 have out:s.heap.objs.size∉ [(s.heap.push (gY b)).objs.size,l]:=by
  intro z;rcases List.mem_cons.mp z with z|z
  ·rw[sz]at z;exact Nat.ne_of_lt (Nat.lt_succ_self _) z
  ·exact Nat.ne_of_gt ll (List.mem_singleton.mp z)
 have W:=(Walks.tuple (prog:=P) (w:=w) (A:=A.in1.in1) (by simp[hh]) _ l ne1 its).toS;refine ug W s.heap.objs.size out (fun i=>zs.getD i Str.empty) (fun i v z=>xf r i v (by rw[Array.getElem?_toList];exact z)) few its.size 0 _ (Nat.zero_add _) ?_ ?_ ?_
 ·exact⟨⟨_,Heap.get?_push_size _ rfl,rfl,rfl⟩,Yc.push _⟩
 ·exact SetOf_congr ((setObjOf_fresh (knd:=strKind P w) b).setOf (Heap.get?_push_of_some _ Qu) (by decide)) (fun _=>rfl) rfl
 ·rintro⟨h',g',d',t',o'⟩ mv so
  obtain rfl:g'=s.gens:=mv.gens;obtain rfl:d'=s.drawn:=mv.drawn;obtain rfl:o'=s.os:=mv.os;apply wpAny_pure;refine wpAny_pure ⟨rfl,h',t',rfl,so,fun x o hx e=>mv.heap x o (fun z=>?_) (Heap.get?_push_of_some _ (Heap.get?_push_of_some _ e))⟩;rcases List.mem_cons.mp z with z|z
  ·exact Nat.ne_of_lt hx z
  ·have z:=List.mem_singleton.mp z;rw[sz]at z;exact Nat.ne_of_lt (Nat.lt_succ_of_lt hx) z
theorem pR{l:Addr}{its:Array Value}{zs:List Str}{Q:Value→Shared→Prop}(hh:A.handled=none)(hl:IsTup s.heap l its)(r:aW (zs.map V.str) its.toList)(few:its.size+1<scanBound)
  (k:∀(h':Heap)(tk:Nat),tH P w s s.heap.objs.size zs its.size h'→Q (.ref s.heap.objs.size) { s with heap:=h',toks:=tk }):wpAny (model P w) A (call (.type "set") [.ref l]) Q E s:=by
 have C:=F.called_set;obtain⟨_,_,c1⟩:=C.mro;have c2:=C.made;have c3:=C.sub;have c4:=C.notType;have c5:=C.canCreate;have c6:=F.typeCall_set_1 (.ref l);have c7:=C.init.lookup;have c8:=C.init.bind (.ref s.heap.objs.size);apply wpAny_call;apply codeAny_of_tree;show wpAny _ _ (callAny (.type "set") ⟨[.ref l],[]⟩) _ _ _;apply wpAny_pure;refine And.intro (Code.quiet_builtin _ (by decide+kernel))<|codeAny_builtin F.entry_type_call ?_
 rw[Around.under_plain (weight_type_call_type "set" [.ref l] []) rfl]
 repeat any_goals first|assumption|wp_step
 refine codeAny_mono (R:=wants (fun o s1=>∃b:Bool,o=.ref s.heap.objs.size∧s1= { s with heap:=s.heap.push (gY b) }) E) (code_set_new_1 _ fun b=>⟨b,rfl,rfl⟩) fun res s1 z=>?_;rcases res with e|(o|_|_|_)<;>first|exact z|exact z.elim|skip
 obtain⟨b,rfl,rfl⟩:=z;have isS:Shared.TypeIs { s with heap:=s.heap.push (gY b) } (.ref s.heap.objs.size) "set":=⟨_,Heap.get?_push_size _ rfl,rfl⟩
 repeat any_goals first|assumption|wp_step
 refine codeAny_mono (yN (E:=E) (by simp[hh]) hl r few) fun WT s2 z2=>?_;rcases WT with e|(o|_|_|_)<;>first|exact z2|exact z2.elim|skip
 obtain⟨rfl,h',tk,rfl,fin⟩:=z2
 repeat any_goals first|assumption|wp_step
 exact k h' tk fin
end
section
variable{X:Cx}{e:Expr}{te:TE}{p1 p2 pos pos2:Pos}
theorem vR(hc:X.calm=true)(g1:Gl X "len")(m1:X.mg "len"=none)(g2:Gl X "set")(m2:X.mg "set"=none)(he:PE X e te)
  (hs:starEach [e] X.env=(false,eval e X.env)::starEach [] X.env:=by rfl) (VB:starEach [.Call (.Name "set" p2) [e] [] pos2] X.env=(false,eval (.Call (.Name "set" p2) [e] [] pos2) X.env)::starEach [] X.env:=by rfl)
  (hp:(backTo pos (starEach [] X.env)).any (·.1)=false:=by rfl) (VD:(backTo pos2 (starEach [] X.env)).any (·.1)=false:=by rfl):
  PE X (.Call (.Name "len" p1) [.Call (.Name "set" p2) [e] [] pos2] [] pos) (fun σ H Q=>te σ H fun x H1=>∃(a:Addr)(zs:List Str),x=.ref a∧O5 X.K H1 a (zs.map V.str)∧zs.length+1<scanBound∧Q (.int ((bM (fun i=>zs.getD i Str.empty) zs.length).length:Nat)) H1):=by
 intro pins s σ H Q I h;refine wpAny_Call_Name_kw (gQ I g1 m1 PySem.boot_len ?_ (by decide) (by decide));refine PyProof.Rows.callWith_builtin1 ?_ VB hp;rw[VB];show wpAny _ _ (spliced ((false,eval (.Call (.Name "set" p2) [e] [] pos2) X.env)::backTo pos (starEach [] X.env))) _ _ s;refine Calls.spliced_cons ?_;have hv:bootBuiltins "set"=some (.type "set"):=by decide+kernel
 refine wpAny_Call_Name_kw (gQ I g2 m2 hv ?_ (by decide) (by decide));refine callWith_type1 ?_ hs VD;have ha:=rY he vS hs
 refine I_ (ha pos2 pins s σ H (fun vs H1=>match vs with
  |[x]=>∃(a:Addr)(zs:List Str),x=.ref a∧O5 X.K H1 a (zs.map V.str)∧zs.length+1<scanBound∧Q (.int ((bM (fun i=>zs.getD i Str.empty) zs.length).length:Nat)) H1
  |_=>False) I h) fun us s1 ⟨vs,H1,I1,rv,z⟩=>?_
 dsimp only at z
 split at z
 rotate_left
 ·exact z.elim
 rename_i x;obtain⟨a,zs,e1,sq,few,q⟩:=z;subst e1;obtain⟨u,rfl,ru⟩:=rv.one
 cases ru
 obtain⟨its,ri,pl,hz⟩:=I1.tuple sq;have ln:its.length=zs.length:=by rw[← ri.length,List.length_map]
 refine pR (I1.ok.hd hc) pl (by simpa using ri) (by simpa[ln]using few) fun h' tk fin=>?_;obtain⟨so,kp⟩:=fin;have I2:Inv X pins σ H1 { s1 with heap:=h',toks:=tk }:=I1.kept fun b o z=>kp b o (Heap.lt_size z) z;refine Calls.spliced_nil ?_;obtain⟨o,go,oo⟩:=so.objOf;obtain⟨o1,es,ep,t,o2,_,_,o3,o4⟩:=oo;have lz:=mI (fun i=>zs.getD i Str.empty) its.toArray.size;have sz:its.toArray.size=zs.length:=by simp[ln]
 have sb:scanBound<2 ^ 63:=by decide
 refine call_len_set go o1 o2 o4 (by omega) ?_;refine⟨.int _,H1,I2.tok _,⟨_,rfl⟩,?_⟩;rw[o3,sz];exact q
end
noncomputable def V7(z:Str):Value→Bool
 |.str y _=>y==z
 |_=>false
theorem oa:∀{zs:List Str}{us:List Value},aW (zs.map V.str) us→∀v∈us,∃y t,v=.str y t
 |[],_,.nil,v,h=>by simp at h
 |z::r,_,.cons q t,v,h=>by
  rcases List.mem_cons.mp h with e|e
  ·obtain⟨k,rfl⟩:=q;exact⟨z,k,e⟩
  ·exact oa t v e
theorem tO(z:Str):∀{zs:List Str}{us:List Value},aW (zs.map V.str) us→us.map (V7 z)=zs.map (· ==z)
 |[],_,.nil=>rfl
 |y::r,_,.cons q t=>by obtain⟨k,rfl⟩:=q;show(y==z)::_=_;rw[tO z t];rfl
section
variable{X:Cx}
def xu(K:W.Frag):V→List V→Hp→VK→Prop:=fun x xs H Q=>∃(a:Addr)(zs:List Str)(z:Str),x=.ref a∧Og K H a (zs.map V.str)∧xs= [.str z]∧zs.length≤sizeLine∧zs.idxOf z<zs.length∧Q (.int (zs.idxOf z:Nat)) H
theorem zq:Zy X "list.index" (xu X.K):=by
 intro pins s σ H x xs v us Q I rx rv h;obtain⟨a,zs,z,rfl,sq,rfl,hz,hi,q⟩:=h
 cases rx
 obtain⟨u,rfl,ru⟩:=rv.one;obtain⟨tz,rfl⟩:=ru;obtain⟨its,r,pl,_⟩:=I.list sq;obtain⟨⟨cls,dd,data,sl⟩,ho,hc,n,hd⟩:=pl.isList;simp only at hc hd;subst hc hd;have ln:its.length=zs.length:=by rw[← r.length,List.length_map]
 have mp:=tO z r
 have at':∀m (h1:m<its.length) (h2:m<zs.length),V7 z its[m]=(zs[m]==z):=fun m h1 h2=>by have:=congrArg (·[m]?) mp;simpa[List.getElem?_map,h1,h2]using this
 have hj:zs.idxOf z<its.toArray.size:=by simpa[ln]using hi
 have hsm:((zs.idxOf z:Nat):Int)<2 ^ 63 - 1:=by rw[sizeLine_eq]at hz;omega
 have hit:V7 z its.toArray[zs.idxOf z]=true:=by have:=at' (zs.idxOf z) (by omega) hi;simp only[List.getElem_toArray];rw[this];simp
 have hno:∀m (hm:m<its.toArray.size),m<zs.idxOf z→V7 z its.toArray[m]=false:=by
  intro m hm SM;have h1:m<its.length:=by simpa using hm
  have:=at' m h1 (by omega);simp only[List.getElem_toArray];rw[this];exact List.not_of_lt_findIdx (p:=(· ==z)) (xs:=zs) (i:=m) SM
 refine call_meets PySem.F.slot_list_index ⟨_,ho,rfl⟩ PySem.F.entry_list_index (PySem.F.args_list_index_2 _ _) (SeqAt.list_indexAt a _ n dd sl (.str z tz) (V7 z) (zs.idxOf z) hj hsm hit hno) ⟨ho,fun y hy=>?_,?_⟩
 ·obtain⟨w,t,rfl⟩:=oa r y (by simpa using hy);exact SeqAt.EqAt.str_str w t z tz
 ·exact⟨.int (zs.idxOf z:Nat),H,I.tok _,⟨_,rfl⟩,q⟩
end
end L2
namespace L3
open PySem PySem.Spec PyProof.Rows L2
section
variable{X:Cx}{T:Tab}{Ew:XK}{a b e:Expr}{fa fb f:Ex}{pos p0 p1 p2 pos2:Pos}
def lu(p q:PV)(h:List PO):Res PV:=match p,q with
 |.tup xs,.int k=>if RM 9223372036854775808 k=true∧xs.length * k.toNat≤sizeLine then .ok (.tup (mr xs k)) h else .bad
 |p,q=>iG p q h
theorem AH{α:Type}(xs:List α)(k:Int)(h:xs= []∨k=1):mr xs k=xs:=by
 rcases h with rfl|rfl
 ·simp[mr]
 ·simp[mr]
theorem uk{K:W.Frag}{F:Hp}{m:List Addr}{xs:List PV}{vs:List V}(r:ak K T F m xs vs):∀n:Nat,ak K T F m (List.replicate n xs).flatten (List.replicate n vs).flatten
 |0=>.nil
 |n+1=>by rw[List.replicate_succ,List.replicate_succ,List.flatten_cons,List.flatten_cons];exact r.append (uk r n)
theorem yX{K:W.Frag}:et K T (fun x y H Q=>Fv K x y H Q∨AS x y H Q) lu:=by
 intro F m h H x y p q Q Ew R rp rq w;unfold lu at w
 split at w
 ·rename_i xs k
  split at w
  ·rename_i hz
   cases rq
   cases rp with
   |tup ef rr=>
    have hk:=bR.mp hz.1;refine .inl ⟨_,k,_,rfl,rfl,R.same.Rt ef,by omega,by omega,by rw[← rr.length];exact hz.2,fun c=>?_,fun pp hp=>?_⟩
    ·have e1:mr xs k=xs:=AH xs k (c.imp (fun z=>by have:=rr.length;rw[z]at this;exact List.eq_nil_of_length_eq_zero (by simpa using this)) id);rw[e1]at w;exact aQ w R (.tup ef rr)
    ·obtain⟨s2,R2⟩:=aX.lay (o:=.tup (List.replicate k.toNat _).flatten) R hp;exact w _ m _ _ s2 R2 (.tup (.inl (.inl aG)) (s2.reps (uk rr k.toNat)))
  ·exact w.elim
 ·exact .inr (ut F m h H x y _ _ Q Ew R rp rq w)
theorem DH(ha:RE X T Ew a fa)(hb:RE X T Ew b fb):RE X T Ew (.BinOp a .Mult b pos) (c2 lu fa fb):=by with_unfolding_all exact(
  oG (Ov.or Ej xJ) yX ha hb)
def lA(p:PV)(ps:List PV)(h:List PO):Res PV:=match ps with
 |[.str z]=>match(Tp h p).bind cG with
  |some ls=>if ls.length≤sizeLine∧ls.idxOf z<ls.length then .ok (.int (ls.idxOf z:Nat)) h else .bad
  |none=>.bad
 |_=>.bad
theorem Cm(z:List Nat):∀ls:List (List Nat),(ls.map S).idxOf (S z)=ls.idxOf z
 |[]=>rfl
 |l::r=>by
  rw[List.map_cons,List.idxOf_cons,List.idxOf_cons,Cm z r]
  by_cases hl:l=z
  ·subst hl;simp
  ·have:S l≠S z:=fun q=>hl (yC q);rw[beq_eq_false_iff_ne.mpr hl,beq_eq_false_iff_ne.mpr this]
theorem uv{K:W.Frag}{T:Tab}:yD K T (xu K) lA:=by
 intro F m h H x xs p ps Q Ew R rp rs w;unfold lA at w
 split at w
 ·rename_i z;obtain⟨y,rfl,ry⟩:=rs.one
  cases ry
  split at w
  ·rename_i ls e
   split at w
   ·rename_i hz;obtain⟨zs,e1,e2⟩:=Option.bind_eq_some_iff.mp e;obtain⟨a,vs,rfl,sq,rr⟩:=eU R rp e1;rw[gj e2]at rr;have ev:=kQ rr;subst ev;refine⟨a,ls.map S,S z,rfl,sq,rfl,by rw[List.length_map];exact hz.1,by rw[Cm,List.length_map];exact hz.2,?_⟩;rw[Cm];exact aQ w R (.int _)
   ·exact w.elim
  ·exact w.elim
 ·exact w.elim
def cE(p:PV)(h:List PO):Res PV:=match p with
 |.tup xs=>match cG xs with
  |some ls=>if ls.length+1<scanBound then .ok (.int (mY ls:Nat)) h else .bad
  |none=>.bad
 |p=>jE p h
theorem vL(g1:Gl X "len")(m1:X.mg "len"=none)(g2:Gl X "set")(m2:X.mg "set"=none)(he:RE X T Ew e f)(hc:X.calm=true:=by rfl)
  (hs:starEach [e] X.env=(false,eval e X.env)::starEach [] X.env:=by rfl) (VB:starEach [.Call (.Name "set" p2) [e] [] pos2] X.env=(false,eval (.Call (.Name "set" p2) [e] [] pos2) X.env)::starEach [] X.env:=by rfl)
  (hp:(backTo pos (starEach [] X.env)).any (·.1)=false:=by rfl) (VD:(backTo pos2 (starEach [] X.env)).any (·.1)=false:=by rfl):
  RE X T Ew (.Call (.Name "len" p1) [.Call (.Name "set" p2) [e] [] pos2] [] pos) (c1 cE f):=by with_unfolding_all
 intro pins s σ H Q I ⟨F,m,ρ,h,R,p⟩;have pb:aD X.K T (aF X.K T) F m H Q Ew ((f ρ h).bind cE):=p
 by_cases ht:∃xs h1,f ρ h=.ok (.tup xs) h1
 ·obtain⟨xs,h1,ef⟩:=ht;refine vR hc g1 m1 g2 m2 he hs VB hp VD pins s σ H Q I ⟨F,m,ρ,h,R,?_⟩;rw[ef]at pb ⊢;intro F1 m1 H1 x s1 R1 r1;have w:=aD.step s1 (show aD X.K T _ F m H Q Ew (cE (.tup xs) h1)from pb);unfold cE at w;dsimp only at w
  cases e2:cG xs with
  |none=>rw[e2]at w;exact w.elim
  |some ls=>
   rw[e2]at w;dsimp only at w
   split at w
   ·rename_i q
    cases r1 with
    |tup ea ra=>have em:=gj e2;subst em;have ev:=kQ ra;subst ev;refine⟨_,ls.map S,rfl,R1.same.Rt ea,by rw[List.length_map];exact q,?_⟩;rw[Aw];exact aQ w R1 (.int _)
   ·exact w.elim
 ·have hl:=yU (T:=T) (Ew:=Ew) (f:=f) (p1:=p1) (p2:=p2) (pos:=pos) (pos2:=pos2) g1 m1 g2 m2 he hc hs VB hp VD;refine(show PE X _ (wE X T Ew (c1 jE f))from hl) pins s σ H Q I ⟨F,m,ρ,h,R,?_⟩;show aD X.K T (aF X.K T) F m H Q Ew ((f ρ h).bind jE)
  cases ef:f ρ h with
  |bad=>rw[ef]at pb;exact pb
  |exc e' h'=>rw[ef]at pb;exact pb
  |ok q h1=>
   rw[ef]at pb
   have:cE q h1=jE q h1:=by
    unfold cE
    split
    ·exact absurd ⟨_,_,ef⟩ ht
    ·rfl
   rw[show(Res.ok q h1).bind cE=cE q h1 from rfl,this]at pb;exact pb
noncomputable def EB(h:List PO):PV→Option (Nat×List PV)
 |.ref n=>match h[n]? with
  |some (.lst xs)=>some (n,xs)
  |_=>none
 |_=>none
def kz(g8:List Nat)(j:Nat)(tt:Tx)(te:Ex):Ax:=fun ρ h=>(af j ρ h).bind fun p h1=>match EB h1 p with
 |some (_,xs)=>if xs.length<sizeLine then bv tt te (bX g8 ρ) xs h1 else .bad
 |none=>.bad
def KqT(tt:Tx):Prop:=∀ ρ h b h',tt ρ h=.ok b h'→h'=h
def Xy(te:Ex):Prop:=∀ ρ h b h',te ρ h=.ok b h'→h'=h
theorem Ch(i:Nat):Xy (af i):=fun ρ h b h' e=>by
 unfold af at e
 split at e
 ·cases e;rfl
 ·cases e
theorem JM(v:PV):Xy (cK v):=fun ρ h b h' e=>by cases e;rfl
theorem FG{g:PV→PV→List PO→Res PV}{f1 f2:Ex}(hg:∀p q h b h',g p q h=.ok b h'→h'=h)(h1:Xy f1)(h2:Xy f2):Xy (c2 g f1 f2):=fun ρ h b h' e=>by
 unfold c2 at e
 cases q1:f1 ρ h with
 |bad=>rw[q1]at e;cases e
 |exc _ _=>rw[q1]at e;cases e
 |ok x hx=>
  obtain rfl:=h1 _ _ _ _ q1;rw[q1]at e
  cases q2:f2 ρ hx with
  |bad=>simp only[Res.M4,q2,Res.Vm]at e;cases e
  |exc _ _=>simp only[Res.M4,q2,Res.Qh]at e;cases e
  |ok y hy=>obtain rfl:=h2 _ _ _ _ q2;simp only[Res.M4,q2]at e;exact hg _ _ _ _ _ e
theorem FF(p q:PV)(h:List PO)(b:PV)(h':List PO)(e:b_ p q h=.ok b h'):h'=h:=by
 unfold b_ at e
 repeat' split at e
 all_goals first|(cases e;rfl)|cases e
theorem Cg:KqT cJ:=fun ρ h b h' e=>by cases e;rfl
theorem BX{K:W.Frag}{F H:Hp}{m:List Addr}{h:List PO}{p:PV}{x:V}{n:Nat}{xs:List PV}(R:RelH K T F m h H)(r:aF K T F m p x)(e:EB h p=some (n,xs)):∃a,x=.ref a∧m[n]? =some a∧h[n]? =some (.lst xs):=by
 unfold EB at e
 split at e
 ·split at e
  ·rename_i q
   cases e
   cases r with
   |ref em=>exact⟨_,rfl,em,q⟩
  ·cases e
 ·cases e
theorem um{elt:Expr}{x y:Str}{px py:Pos}{ifs:List Expr}{scope:Scope}{tt:Tx}{te:Ex}{M:List Str}{j:Nat}(g8:List Nat)(O7:X.calm=true)(S:eA X.N X.env.scope scope g8 x M)
  (ht:∀cl C ex s H,Xx (cZ X M scope cl C ex s H) T Ew ifs tt) (he:∀cl C ex s H,RE (cZ X M scope cl C ex s H) T Ew elt te) (kt:KqT tt) (ke:Xy te)
  (hN:X.N[j]? =some y:=by rfl) (hv:YG X.env.scope y:=by first|exact Or.inl rfl|exact Or.inr (Or.inl rfl)|exact Or.inr (Or.inr rfl)) (hd:(y==("__debug__":Str))=false:=by decide) (RK:(y==("__classdict__":Str))=false:=by decide)
  (hs:∀z,foldedSetIterable (.Name y py) X.env z=pure z:=by intro _;rfl):RE X T Ew (.ListComp elt [⟨.Name x px,.Name y py,ifs,0⟩] scope pos) (cN SJ (kz g8 j tt te)):=by with_unfolding_all
 refine PE.imp (xG (tt:=wT X T Ew tt) (te:=wE X T Ew te) g8 O7 S (xF (vQ hN hv hd RK)) ht he hs) ?_;rintro σ H Q ⟨F,m,ρ,h,R,p⟩;have p0:aD X.K T (aF X.K T) F m H Q Ew ((kz g8 j tt te ρ h).bind SJ):=p;unfold kz af at p0
 cases e1:ρ[j]? with
 |none=>rw[e1]at p0;exact p0.elim
 |some o=>
  cases o with
  |none=>rw[e1]at p0;exact p0.elim
  |some pv=>
   rw[e1]at p0;obtain⟨v,hv1,hv2⟩:=R.env.2 j pv e1;have rd:=R.toRelH.TF hv2;dsimp only[Res.M4]at p0
   cases e2:EB h (aj h pv)with
   |none=>rw[e2]at p0;exact p0.elim
   |some nx=>
    obtain⟨n,xs⟩:=nx;rw[e2]at p0;dsimp only at p0;obtain⟨a,rfl,em,eh⟩:=BX R.toRelH rd e2
    by_cases hz:xs.length<sizeLine
    ·rw[if_pos hz]at p0
     have at':∀{F2 m2 H2},aX F m H F2 m2 H2→RelH X.K T F2 m2 h H2→∃vs,Og X.K H2 a vs∧ak X.K T F2 m2 xs vs:=fun s2 R2=>by obtain⟨_,vs,z1,z2⟩:=R2.obj n _ a eh (s2.idx n a em);exact⟨vs,.inl (.inl z1),z2⟩
     obtain⟨YW,sq0,_⟩:=at' .refl R.toRelH
     refine⟨_,hv1,a,rfl,⟨YW,sq0⟩,fun i n acc H2=>n=xs.length - i∧i≤xs.length∧acc.length≤i∧∃F2 m2 as,aX F m H F2 m2 H2∧RelH X.K T F2 m2 h H2∧ak X.K T F2 m2 as acc∧
      aD X.K T (aF X.K T) F2 m2 H2 Q Ew (((bv tt te (bX g8 ρ) (xs.drop i) h).bind fun vs h3=>SJ (as++vs) h3)),⟨_,rfl,Nat.zero_le _,ab2 _,F,m,[],.refl,R.toRelH,.nil,by simpa using p0⟩,?_⟩
     rintro i n' acc H2 ⟨rfl,hi,hac,F2,m2,as,s2,R2,ra,w2⟩
     obtain⟨vs,sq,rv⟩:=at' s2 R2;rcases Nat.lt_or_ge i xs.length with SM|Yn
     ·right
      have hlv:i<vs.length:=by rw[← rv.length];exact SM
      refine⟨⟨vs,vs[i],sq,List.getElem?_eq_getElem hlv⟩,by omega,fun v H3 yy=>?_⟩;obtain⟨rfl,yy⟩:=yy;obtain⟨v',g1,g2⟩:=rv.get (List.getElem?_eq_getElem SM);have g3:=yy vs sq;rw[g1]at g3
      cases g3
      have eE:kB X.K T F2 m2 (some xs[i]::bX g8 ρ) (some v::gw g8 σ):=(s2.env R.env).cap g8 g2;rw[List.drop_eq_getElem_cons SM,bv]at w2
      cases q1:tt (some xs[i]::bX g8 ρ) h with
      |bad=>rw[q1]at w2;exact w2.elim
      |exc e' h'=>rw[q1]at w2;refine⟨F2,m2,_,h,⟨R2,eE⟩,?_⟩;rw[q1];exact w2
      |ok bb h'=>
       obtain rfl:=kt _ _ _ _ q1;rw[q1]at w2;refine⟨F2,m2,_,h',⟨R2,eE⟩,?_⟩;rw[q1];intro F4 m4 H4 b' s4 R4 eb
       cases eb
       have XJ:=s2.trans s4;have w4:=aD.step s4 w2
       cases bb with
       |false=>refine sE ⟨xs.length - (i+1),by omega,rfl,by omega,by omega,F4,m4,as,XJ,R4,s4.reps ra,?_⟩;exact w4
       |true=>
        dsimp only[Res.M4]at w4;rw[if_pos rfl]at w4
        cases q2:te (some xs[i]::bX g8 ρ) h' with
        |bad=>rw[q2]at w4;exact w4.elim
        |exc e' h2=>rw[q2]at w4;refine pV ⟨F4,m4,_,h',⟨R4,s4.env eE⟩,?_⟩;rw[q2];exact w4
        |ok q h2=>
         obtain rfl:=ke _ _ _ _ q2;rw[q2]at w4;refine pV ⟨F4,m4,_,h2,⟨R4,s4.env eE⟩,?_⟩;rw[q2];intro F5 m5 H5 y5 s5 R5 rq;refine⟨xs.length - (i+1),by omega,rfl,by omega,by rw[List.length_append];simp;omega,F5,m5,as++ [q],XJ.trans s5,R5,(s5.reps (s4.reps ra)).append (.cons rq .nil),?_⟩;have w5:=aD.step s5 w4
         have e3:(((bv tt te (bX g8 ρ) (xs.drop (i+1)) h2).bind fun vs h3=>.ok (q::vs) h3).bind fun vs h3=>SJ (as++vs) h3)=(bv tt te (bX g8 ρ) (xs.drop (i+1)) h2).bind fun vs h3=>SJ (as++ [q]++vs) h3:=by
          cases bv tt te (bX g8 ρ) (xs.drop (i+1)) h2 with
          |ok vs h3=>simp
          |exc _ _=>rfl
          |bad=>rfl
         rw[← e3];exact w5
     ·left
      have e:i=xs.length:=by omega
      subst e;refine⟨⟨vs,sq,by rw[rv.length];exact ab2 _⟩,fun D hD=>?_⟩;rw[List.drop_length]at w2;have w3:aD X.K T (aF X.K T) F2 m2 H2 Q Ew (SJ as h):=by simpa[bv]using w2
      exact fC w3 R2 ra D hD
    ·rw[if_neg hz]at p0;exact p0.elim
end
end L3
noncomputable section
namespace K8
open PySem PySem.Spec PyProof.Rows L2 L3
noncomputable def top(i:Nat):Stmt:=PySem.Challenge.pw_formsmith_k08_bound_names.main.body.getD i (.Pass ⟨0,0,0,0⟩)
noncomputable def kb:List PV:=[.int 0,.int 0,.int 0,.int 0]
noncomputable def AT:List Nat:=[116,104,101,32,98,111,111,107,32,105,115,32,116,111,111,32,108,97,114,103,101,32,119,105,116,104,32,97,108,108,32,112,117,116,32,105,110]
noncomputable def bq:List Nat:=[97,98,99,100,101,102,103,104,105,106,107,108,109,110,111,112,113,114,115,116,117,118,119,120,121,122]
set_option genSizeOf false in
inductive Fn where
 |law|o9|H_|E_|M_|N_|N5|G8|K7|sized|bound|J6|v5|Pu|Ot|G_|K3|h_|g_|i_|K5|J4|j7|D_|n_|G7|K4|B_|K1|d8|G9|d7|u_|k_|K_|NT|o7
abbrev CC:=Fn→List PV→Out
abbrev DD:=Fn→List PV→List PO→Res PV
abbrev NN:=Fn→List PV→Res PV
def gW:Fn→Stmt
 |.law=>top 50
 |.o9=>top 42
 |.H_=>top 43
 |.E_=>top 45
 |.M_=>top 32
 |.N_=>top 47
 |.N5=>top 48
 |.G8=>top 30
 |.K7=>top 49
 |.sized=>top 23
 |.bound=>top 22
 |.J6=>top 31
 |.v5=>top 39
 |.Pu=>top 41
 |.Ot=>top 33
 |.G_=>top 44
 |.K3=>top 46
 |.h_=>top 14
 |.g_=>top 24
 |.i_=>top 17
 |.K5=>top 38
 |.J4=>top 40
 |.j7=>top 15
 |.D_=>top 25
 |.n_=>top 26
 |.G7=>top 34
 |.K4=>top 37
 |.B_=>top 35
 |.K1=>top 36
 |.d8=>top 16
 |.G9=>top 21
 |.d7=>EH (top 7) 0
 |.u_=>top 27
 |.k_=>top 28
 |.K_=>top 18
 |.NT=>top 19
 |.o7=>top 20
noncomputable def oU:Fn→List Str
 |.law=> ["_law_script","_law_book","_law_many","_law_low","_law_due","_law_turn","_law_found","_law_spots_here","_law_at","_law_node","_law_names_here"]
 |.o9=> ["_law_cells","_law_spot","_law_menu","_law_book","_law_pieces","_law_many","_law_k","_law_n","_law_names_here","_law_handed","_law_at","_law_nodes","_law_name"]
 |.H_=> ["_law_book","_law_number","_law_nodes","_law_body","_law_deep","_law_many","_law_low","_law_node","_law_some","_law_at","_law_one_here","_law_more","_law_lower"]
 |.E_=> ["_law_book","_law_found","_law_k","_law_piece"]
 |.M_=> ["_law_n","_law_some","_law_size","_law_at","_law_names_here","_law_k","_law_word","_law_told_here"]
 |.N_=> ["_law_cell_here","_law_place","_law_first","_law_nodes","_law_k","_law_pieces","_law_main","_law_many"]
 |.N5=> ["_law_book","e","_law_other"]
 |.G8=> ["_law_script","_law_k"]
 |.K7=> ["_law_found","_law_due"]
 |.sized=> ["book","sizes","piece","main"]
 |.bound=> ["book","at","piece","names","nodes","rest","parts","part"]
 |.J6=> ["_law_cells","_law_spot","_law_k","_law_base"]
 |.v5=> ["_law_cells","_law_spot","_law_at","_law_deep"]
 |.Pu=> ["_law_book","_law_piece","_law_left"]
 |.Ot=> ["_law_nodes","_law_found","_law_node"]
 |.G_=> ["_law_nodes","_law_at","_law_names_here","_law_found","_law_k","_law_node"]
 |.K3=> ["_law_nodes","_law_many","_law_k"]
 |.h_=> ["book","size"]
 |.g_=> ["nodes","sizes","whole","node"]
 |.i_=> ["node"]
 |.K5=> ["_law_cells","_law_spot","_law_at","_law_deep","_law_n","_law_kind","_law_more","_law_path","_law_name","_law_nodes","_law_yes"]
 |.J4=> ["_law_book","_law_nodes","_law_number","_law_body","_law_deep","_law_left","_law_node","_law_at","_law_handed"]
 |.j7=> ["book","elders","number","piece","is_main"]
 |.D_=> ["one","other"]
 |.n_=> ["node","sizes"]
 |.G7=> ["_law_n","_law_at","_law_fields"]
 |.K4=> ["_law_cells","_law_spot","_law_at","_law_deep","_law_n","_law_fits","_law_name","_law_many","_law_handed","_law_paths","_law_first","_law_names_here"]
 |.B_=> ["_law_cells","_law_spot","_law_at","_law_many"]
 |.K1=> ["_law_at","_law_names_here","_law_inner"]
 |.d8=> ["nodes","way","names","many","elders","place","node","at","part"]
 |.G9=> ["names"]
 |.d7=> ["self","at"]
 |.u_=> ["inner","body_depth"]
 |.k_=> ["node","sizes","piece","many","body","body_depth"]
 |.K_=> ["node","names","many","elders","path"]
 |.NT=> ["node"]
 |.o7=> ["node","piece"]
def mC:Fn→Str
 |.law=>"law"
 |.o9=>"_law_good_book"
 |.H_=>"_law_count"
 |.E_=>"_law_all_spots"
 |.M_=>"_law_names"
 |.N_=>"_law_chain"
 |.N5=>"_law_told"
 |.G8=>"_law_cell_at"
 |.K7=>"_law_alike"
 |.sized=>"sized"
 |.bound=>"bound"
 |.J6=>"_law_cell"
 |.v5=>"_law_grown"
 |.Pu=>"_law_few"
 |.Ot=>"_law_one"
 |.G_=>"_law_spots"
 |.K3=>"_law_looped"
 |.h_=>"need_book"
 |.g_=>"size_of_nodes"
 |.i_=>"parts_within"
 |.K5=>"_law_node_by"
 |.J4=>"_law_come"
 |.j7=>"need_names"
 |.D_=>"side_by_side"
 |.n_=>"size_of_node"
 |.G7=>"_law_path_by"
 |.K4=>"_law_used_by"
 |.B_=>"_law_paths_by"
 |.K1=>"_law_within"
 |.d8=>"need_nodes"
 |.G9=>"has_twice"
 |.d7=>"__init__"
 |.u_=>"size_within"
 |.k_=>"size_of_use"
 |.K_=>"is_wrong"
 |.NT=>"paths_in"
 |.o7=>"is_wrong_use"
def jR:Fn→Str
 |.d7=>"BadName.__init__"
 |f=>mC f
def sH:Fn→Bool
 |.d7=>false
 |_=>true
set_option genSizeOf false in
inductive Nt where
 |ValueError|any|bool|dict|enumerate|int|isinstance|len|list|max|range|set|tuple
def HE:Nt→Str
 |.ValueError=>"ValueError"
 |.any=>"any"
 |.bool=>"bool"
 |.dict=>"dict"
 |.enumerate=>"enumerate"
 |.int=>"int"
 |.isinstance=>"isinstance"
 |.len=>"len"
 |.list=>"list"
 |.max=>"max"
 |.range=>"range"
 |.set=>"set"
 |.tuple=>"tuple"
def fK:Fn→List Str
 |.law=> ["_law_script"]
 |.o9=> ["_law_cells","_law_spot","_law_menu"]
 |.H_=> ["_law_book","_law_number","_law_nodes","_law_body","_law_deep"]
 |.E_=> ["_law_book"]
 |.M_=> ["_law_n"]
 |.N_=> ["_law_cell_here"]
 |.N5=> ["_law_book"]
 |.G8=> ["_law_script","_law_k"]
 |.K7=> ["_law_found","_law_due"]
 |.sized=> ["book"]
 |.bound=> ["book","at"]
 |.J6=> ["_law_cells","_law_spot"]
 |.v5=> ["_law_cells","_law_spot","_law_at","_law_deep"]
 |.Pu=> ["_law_book","_law_piece"]
 |.Ot=> ["_law_nodes"]
 |.G_=> ["_law_nodes","_law_at","_law_names_here"]
 |.K3=> ["_law_nodes","_law_many"]
 |.h_=> ["book"]
 |.g_=> ["nodes","sizes"]
 |.i_=> ["node"]
 |.K5=> ["_law_cells","_law_spot","_law_at","_law_deep"]
 |.J4=> ["_law_book","_law_nodes","_law_number","_law_body","_law_deep","_law_left"]
 |.j7=> ["book"]
 |.D_=> ["one","other"]
 |.n_=> ["node","sizes"]
 |.G7=> ["_law_n","_law_at"]
 |.K4=> ["_law_cells","_law_spot","_law_at","_law_deep","_law_n"]
 |.B_=> ["_law_cells","_law_spot","_law_at","_law_many"]
 |.K1=> ["_law_at","_law_names_here"]
 |.d8=> ["nodes","way","names","many","elders"]
 |.G9=> ["names"]
 |.d7=> ["self","at"]
 |.u_=> ["inner"]
 |.k_=> ["node","sizes"]
 |.K_=> ["node","names","many","elders"]
 |.NT=> ["node"]
 |.o7=> ["node","piece"]
def U5:Nat→Option Bool
 |3=>some true
 |6=>some true
 |_=>none
def tC_:List (Nat×Nat×Bool):=[(3,6,false),(3,5,false),(3,2,false),(3,1,false),(3,4,false),(3,8,false),(3,3,true),(3,7,false),(6,6,true),(6,5,false),(6,2,false),(6,1,false),(6,4,false),(6,8,false),(6,3,false),(6,7,false)]
def Vu:Nat→Nat→Option Bool:=xV tC_
def Vc:Nat→String→Option Bool
 |3,"ValueError"=>some true
 |6,"ValueError"=>some true
 |_,_=>none
def gU:Nat→Bool
 |3=>true
 |6=>true
 |_=>false
abbrev aac:=cK (.int 1)
abbrev aad:=cK (.int 0)
abbrev aae:=cK (.int 3)
abbrev aaf:=cK (.int 2)
abbrev aag:=cK (.int 4)
abbrev aah:=ae (af 1) ag
abbrev aai:=c2 b_ (af 0) aad
abbrev aaj:=cK (.str [117,115,101])
abbrev aak:=Sd 2 (aO (G5 2) (aO (G5 3) cW))
abbrev aal:=ae (af 0) ag
abbrev abO:=cK (.str [120])
abbrev aam:=cN aR (ae abO ag)
abbrev aaq:=cK (.str [110,97,109,101,115])
abbrev aas:=cK (.str [98,111,100,121])
abbrev aav:=cK (.str [108,111,111,112])
abbrev aaw:=cK .non
abbrev aax:=c2 b_ (af 0) aac
abbrev aaz:=cK (.str [99,104,111,105,99,101])
abbrev aaB:=cK (.str [116,101,120,116])
abbrev aaD:=c2 b_ (af 0) aae
abbrev aaG:=cK (.str [112,105,101,99,101])
abbrev aaH:=cK (.int 8)
abbrev aaI:=Sd 2 (aO (G5 5) (aO (G5 6) cW))
abbrev aaJ:=ae (af 5) ag
abbrev aaK:=ae (af 3) ag
abbrev aaL:=c2 b_ (af 1) aad
abbrev aaM:=c2 b_ (af 0) aaf
abbrev abb:=ae (af 6) ag
abbrev aaN:=c2 aB (af 5) (cN dM (ae (cN aR (ae aaG (ae (cK (.str [109,97,105,110])) (ae aam (ae aaw abb))))) ag))
abbrev aaO:=cK (.int 5)
abbrev aaP:=ae (af 2) ag
abbrev aaQ:=cK (.str [104,97,110,100,101,100])
abbrev aaR:=nh U5 Vu Vc
abbrev aaS:=cK (.int 12)
abbrev aaT:=ae (af 4) ag
abbrev aaU:=cK (.str [109,101,110,117])
abbrev aaV:=cN aR ag
abbrev aaW:=c2 b_ (af 5) aad
abbrev aaX:=ae (af 0) aah
abbrev aaY:=ae (c2 aB (af 4) aac) aaJ
abbrev abA:=c1 ng aac
abbrev aaZ:=c2 b_ (af 1) abA
abbrev aa1:=ae (c2 km (af 3) aac) ag
abbrev aa3:=cK (.str [115,101,99,111,110,100])
abbrev aa4:=c2 b_ (af 6) aad
abbrev aa5:=c2 b_ (af 3) aaf
abbrev aa6:=c2 b_ (af 3) aac
abbrev aa7:=ik (af 0)
abbrev abL:=c2 b_ (af 1) aac
abbrev aa8:=iW (ay (c2 Uq aaL abL)) (ay (c2 Vw (af 3) aac))
abbrev aa9:=cK (.str [102,105,114,115,116])
abbrev aa_:=Sd 2 (aO (G5 4) (aO (G5 5) cW))
abbrev abd:=cK (.str [112,108,97,99,101])
abbrev abe:=bf (cK (.bl false))
abbrev abf:=cN gk ag
abbrev abg:=cN cV aal
abbrev abh:=ay (c2 M8 aai aaj)
abbrev abj:=ae aac ag
abbrev abk:=ae (cN aR (ae (af 1) (ae (c2 b_ (af 7) aae) aaK))) ag
abbrev abl:=cN dM ag
abbrev abm:=cK (.str [])
abbrev abn:=c2 b_ (af 7) aad
abbrev abo:=c2 b_ (af 2) aad
abbrev abp:=c2 b_ (af 2) aac
abbrev abq:=c2 b_ (af 1) aae
abbrev abr:=c2 b_ (af 0) aag
abbrev abt:=c2 aB (af 1) (cN aR aaT)
abbrev abu:=ae (af 0) (ae (af 1) (ae (af 10) (ae aag ag)))
abbrev abv:=cK (.int 9)
abbrev abw:=Sd 3 (aO (G5 8) (aO (G5 9) (aO (G5 10) cW)))
abbrev abx:=c2 Uq (cN cV aaJ) aac
abbrev aby:=ae (af 0) (ae (af 1) (ae (af 2) aa1))
abbrev abz:=cK (.int 24)
abbrev abB:=bf (cK (.bl true))
abbrev abC:=ay (c2 M8 aai aav)
abbrev abD:=ay (c2 M8 aai aas)
abbrev abE:=ae aad ag
abbrev abF:=cK (.str [112,105,101,99,101,115])
abbrev abG:=cK (.int 6)
abbrev abH:=c2 b_ (af 5) aae
abbrev abI:=c2 b_ (af 3) aad
abbrev abJ:=c2 b_ (af 2) aaQ
abbrev abK:=c2 b_ (af 1) aaq
abbrev abM:=c2 bP (af 5) aaH
abbrev abN:=lU aal
abbrev abP:=cK (.str [112,108,97,105,110])
abbrev abQ:=cK (.str [101,108,115,101])
abbrev abR:=ae aaD ag
abbrev abS:=cK (.str [109,97,110,121])
abbrev abT:=ae (af 3) aaT
abbrev abU:=ae (af 2) aaK
abbrev abV:=ae (af 2) (ae (af 3) aaY)
abbrev abW:=ae (af 8) ag
abbrev abX:=aI 5 (c2 bP (af 5) aae)
abbrev abY:=aI 3 (c2 b_ (af 2) aaf)
abbrev abZ:=cK (.int 7)
abbrev ab0:=ay (c2 M8 (af 5) aaH)
def cj(C:CC)(Z:DD):Sx:=
 (aq (fy (aT (Z .j7) aal))
  (aq (aI 1 (bo (C .sized) aal))
  (aq (NP (iW (ay (c2 Uq aaL (cK (.int 400)))) (ay (c2 Uq abL abz))) (rE 3 (ae (cK (.str AT)) ag)) bG)
  (bf (c2 b_ (c2 b_ (af 0) abA) aaf)))))
def aE(C:CC)(Z:DD)(z:Bool):Sx:=(aq (aI 4 (c2 M8 (af 2) (c2 km abg aac)))
  (aq (NP (iW (ay (c2 U4 aa6 (af 1))) (iW (kL (bo (C .G9) (ae aa5 ag))) (iU (kL (af 4)) (ay (c2 fN (c2 b_ (af 3) aae) aaw))))) (ir z 6 (ae (cN aR aaP) ag)) bG)
  (aq (fy (aT (Z .d8) (ae (c2 b_ (af 3) aag) (ae (cN aR aaP) (ae aa5 (ae (c2 b_ (af 3) aae) aah))))))
  (uh (af 1) aa6 (af 3)))))
def cA(C:CC)(Z:DD)(z:Bool):Sx:=
 (aq (aI 1 yr)
  (fS abN aak (aE C Z z)))
def bA(C:CC)(Z:DD):Sx:=(fy (aT (Z .d8) (ae (c2 b_ (af 8) aaf) (ae (c2 aB (af 7) (c2 b_ (af 8) aad)) (ae (c2 aB (af 2) (c2 b_ (af 8) aac)) abT)))))
def ba(C:CC)(D:DD)(Z:DD)(z:Bool):Sx:=(aq (aI 7 (c2 aB (af 1) (cN aR aaJ)))
  (aq (NP (kL (aT (D .K_) (ae (af 6) (ae (af 2) abT)))) (ir z 6 (ae (af 7) ag)) bG)
  (fS (ik (bo (C .i_) abb)) (G5 8) (bA C Z))))
def cr(C:CC)(D:DD)(Z:DD)(z:Bool):Sx:=
 (fS abN aaI (ba C D Z z))
def nF(C:CC):Sx:=(aq (aI 6 (bo (C .N5) aah))
  (aq (NP (iW (ay (c2 Ry (af 6) (af 4))) (ay (c2 Ry (cN dB (ae (af 6) (ae (cK (.ty "tuple")) ag))) (cN dB (ae (af 4) (ae (cK (.ty "tuple")) ag)))))) abe bG)
  (NP (xg (kL (bo (C .K7) (ae (bo (C .sized) aah) (ae (cN aR abU) ag))))) abe bG)))
def nE(C:CC):Sx:=(NP (xg (kL (bo (C .K7) (ae (bo (C .bound) (ae (af 1) abW)) (ae (af 10) ag))))) abe bG)
def vd(C:CC)(D:DD):Sx:=
 (aq (aI 1 (aT (D .o9) (ae (af 0) (ae (cN gk (ae aad (ae (cK (.int 40)) ag))) (ae (bo (C .M_) (ae (bo (C .G8) (ae (af 0) abE)) ag)) ag)))))
  (aq (NP (ay (c2 M8 (c2 bP (bo (C .G8) (ae (af 0) abj)) aag) aac)) (aI 1 (bo (C .N_) (ae (c2 bP (c2 iG (bo (C .G8) (ae (af 0) (ae aaf ag))) (cK (.int 48271))) (cK (.int 1000003))) ag))) bG)
  (aq (AA aak (bo (C .H_) (ae (af 1) (ae (c2 km (cN cV aah) aac) (ae (c2 b_ aaZ aag) (ae aaw abj))))))
  (aq (aI 4 (c2 b_ aaZ aaf))
  (aq (NP (iW (ay (c2 Uq (af 2) (cK (.int 400)))) (ay (c2 Uq (af 3) abz))) (aI 4 abS) bG)
  (aq (fS (dI (ae aaf ag)) (G5 5) (nF C))
  (aq (aI 7 (bo (C .E_) aah))
  (aq (fS (ik (c2 aB (mP (af 7) iV (gF (cK (.int 20)))) (mP (af 7) (gF (c1 ng (cK (.int 20)))) iV))) abw (nE C))
  abB))))))))
def fP(C:CC):Ex:=(c2 b_ (af 1) (c2 bP (c2 aB (c2 dU (af 2) aaO) (af 0)) aaS))
def dF(C:CC):Ex:=aai
def dE(C:CC):Ex:=aai
def dy(C:CC)(D:DD):Sx:=(aq (aI 7 (aT (D .J6) aaX))
  (aq (aI 8 (cN fM (ae (cN SJ (eD [2,7] (dI (ae (c2 bP (af 7) aaO) ag)) cJ (fP C))) ag)))
  (aq (aI 9 aaw)
  (aq (NP (iU (ay (c2 Uq (c2 bP (c2 dU (af 7) (cK (.int 60))) aae) aad)) (ay (c2 Vw (af 6) (c2 km (af 5) aac)))) (aI 9 (c2 bP (c2 dU (af 7) (cK (.int 180))) aag)) bG)
  (aq (aI 10 (uY [(aaq,(af 8)),(abF,(cN xI aaT)),(aaQ,(af 9)),(aaU,(af 2))]))
  (aq (jc (af 1) aac (c2 km (c2 aB aaL (cK (.int 30))) (c2 iG aaS (cN vT (ae (c2 Uq (af 5) aaO) ag)))))
  (aq (aI 11 (aT (D .v5) abu))
  (aq (NP (iW (ay (c2 M8 (af 11) aaV)) (ay (c2 M8 (c2 bP (c2 dU (af 7) (cK (.int 720))) aae) aac))) (aI 11 (c2 aB (af 11) (aT (D .v5) abu))) bG)
  (aq (aI 12 (c2 b_ (af 2) (c2 bP (c2 aB (c2 dU (af 7) (cK (.int 2160))) (af 6)) aaS)))
  (aq (NP (ay (c2 U4 (af 12) (cN SJ (kz [] 4 cJ (dF C))))) (aI 12 (c2 b_ (cN dM (ae aa9 (ae aa3 (ae (cK (.str [116,104,105,114,100])) (ae (cK (.str [102,111,117,114,116,104])) (ae (cK (.str [102,105,102,116,104])) (ae (cK (.str [115,105,120,116,104])) (ae (cK (.str [115,101,118,101,110,116,104])) (ae (cK (.str [101,105,103,104,116,104])) ag))))))))) (af 6))) bG)
  (aq (NP (ay (c2 U4 (af 12) (cN SJ (kz [] 4 cJ (dE C))))) (aI 12 (c2 aB (af 12) (cK (.str [113])))) bG)
  (aq (fy (cM ei bK (af 3) (ae (aT (D .Pu) (ae (af 3) (ae (cN aR (ae aaG (ae (af 12) (ae (af 8) (ae (af 9) (ae (bo (C .Ot) (ae (af 11) ag)) ag)))))) ag))) ag)))
  (fy (cM ei bK (af 4) (ae (cN aR (ae (af 12) (ae (cN cV abW) (ae (af 9) ag)))) ag)))))))))))))))
def eY(C:CC)(D:DD):Sx:=
 (aq (aI 3 abf)
  (aq (aI 4 abf)
  (aq (aI 5 (c2 b_ (cN dM (ae aac (ae aaf (ae aae (ae aag (ae aaO (ae aae (ae aag (ae aaH ag))))))))) (c2 bP (c2 dU (aT (D .J6) aaX) abZ) aaH)))
  (aq (fS (dI aaJ) (G5 6) (dy C D))
  (bf (cN fM aaK))))))
def gJ(C:CC):Ex:=aax
def fh(C:CC):Sx:=(aq (AA (Sd 2 (aO (G5 11) (aO (G5 12) cW))) (bo (C .H_) (ae (af 0) (ae (c2 b_ (af 10) aad) (ae (c2 b_ (af 10) aac) (ae (c2 b_ (af 10) aaf) (ae (c2 aB (af 4) aac) ag)))))))
  (aq (aI 5 (c2 aB (af 5) (af 11)))
  (aI 6 (cN rZ (ae (af 6) (ae (af 12) ag))))))
def bJ(C:CC):Sx:=(aq (aI 8 abl)
  (aq (NP (ay (c2 M8 abn aav)) (aI 8 (cN dM abk)) (NP (ay (c2 M8 abn aaz)) (aI 8 (cN dM (ae (cN aR (ae (af 1) (ae (c2 b_ (af 7) aaf) aaK))) abk))) (NP (ay (c2 M8 abn aaj)) (aq (aI 9 (cM ei lA (cN SJ (eD [] aa7 cJ (gJ C))) (ae (c2 b_ (af 7) aac) ag)))
  (aI 8 (cN dM (ae (cN aR (ae (af 9) (ae (c2 b_ (c2 b_ (af 0) (af 9)) aag) (ae (wK (ay (c2 Vx (c2 b_ (af 7) aag) aaw)) aaw (cN aR (ae (c2 b_ (af 7) aag) (ae (af 1) aaK)))) ag)))) ag)))) (NP (ay (c2 M8 abn aas)) (aI 8 (cN dM (ae (cN aR (ae aa6 (ae abI (ae aa5 ag)))) ag))) bG))))
  (aq (aI 5 (c2 aB (af 5) aac))
  (aq (aI 6 (cN rZ (ae (af 6) aaT)))
  (fS (ik (af 8)) (G5 10) (fh C))))))
def jN(C:CC):Sx:=
 (aq (aI 5 aad)
  (aq (aI 6 aad)
  (aq (fS (ik (af 2)) (G5 7) (bJ C))
  (bf (cN aR (ae (af 5) abb))))))
def bN(C:CC):Sx:=(aI 1 (c2 aB (af 1) (bo (C .G_) (ae (c2 b_ (af 3) aag) (ae (cN aR aaP) (ae aa5 ag))))))
def eZ(C:CC):Sx:=
 (aq (aI 1 abl)
  (aq (fS abN aak (bN C))
  (bf (af 1))))
def jv(C:CC):Ex:=(c2 b_ (af 1) (c2 bP (c2 aB (c2 aB (c2 dU (af 2) (cK (.int 192))) (c2 iG aaO (af 0))) (c2 iG (c2 iG aae (c2 dU (af 3) aaH)) (cN vT (ae (c2 M8 (c2 bP (af 2) aae) aad) ag)))) (cK (.int 26))))
def cQ(C:CC):Sx:=(aq (aI 6 (cN Er (eD [1,0,5] (dI (ae aaH ag)) cJ (jv C))))
  (NP (ay (c2 M8 (c2 bP (af 0) aae) aad)) (fy (cM ei bK (af 4) (ae (cM qI lv abm (ae (mP (af 6) iV (gF (c2 aB aac abM))) ag)) ag))) (NP (ay (c2 M8 (c2 bP (af 0) aae) aac)) (aq (jc (af 6) (af 3) (c2 b_ (af 1) (c2 bP (c2 aB (c2 aB (c2 dU (af 0) (cK (.int 192))) (c2 iG abZ (af 5))) aac) (cK (.int 26)))))
  (fy (cM ei bK (af 4) (ae (cM qI lv abm (ae (mP (af 6) iV (gF (af 2))) ag)) ag)))) (fy (cM ei bK (af 4) (ae (mP (cM qI lv abm (ae (c2 aB (mP (af 6) (gF abM) iV) (mP (af 6) iV (gF abM))) ag)) iV (gF (c2 km aaH (c2 dU (af 5) aaH)))) ag))))))
def ja(C:CC):Tx:=(ay (c2 U4 (af 0) (af 1)))
def ju(C:CC):Ex:=(af 0)
def gf(C:CC):Sx:=
 (aq (aI 1 (cK (.str bq)))
  (aq (aI 2 (c2 aB aac (c2 bP (c2 dU (af 0) aae) aaH)))
  (aq (aI 3 (c2 bP (c2 dU (af 0) abz) (af 2)))
  (aq (aI 4 abf)
  (aq (fS (dI (ae aaS ag)) (G5 5) (cQ C))
  (aq (aI 7 (cN dM (ae (cK (.str [97,115])) (ae (cK (.str [98,101,116,119,101,101,110])) (ae aas (ae abQ (ae (cK (.str [101,110,100])) (ae (cK (.str [102,111,114])) (ae (cK (.str [105,102])) (ae (cK (.str [105,110])) (ae aaG (ae aaj (ae (cK (.str [119,105,116,104])) ag)))))))))))))
  (aq (NP (iW (ay (c2 Vw (c1 cE (af 4)) aaS)) (ay (c2 Ry (cN SJ (eD [7] (ik (af 4)) (ja C) (ju C))) abl))) (bf (cN dM (ae (cK (.str [97])) (ae (cK (.str [98])) (ae (cK (.str [97,98])) (ae (cK (.str [98,97])) (ae (cK (.str [105,116,101,109])) (ae (cK (.str [105,116,101,109,115])) (ae (cK (.str [99])) (ae abO (ae (cK (.str [120,121])) (ae (cK (.str [121])) (ae (cK (.str [114,111,119])) (ae (cK (.str [114,111,119,115])) ag)))))))))))))) bG)
  (bf (af 4)))))))))
def gy(C:CC):Sx:=(aI 3 (c2 lu (cN aR (ae (cN aR (ae aaj (ae aa9 (ae (cN aR (ae aam ag)) (ae aaV aaK))))) ag)) (c2 aB aac (cN vT (ae (c2 M8 (c2 bP (c2 dU (af 0) (cK (.int 288))) aaO) aac) ag)))))
def jO(C:CC):Sx:=
 (aq (aI 1 (cN aR (ae abd (ae aam (ae abP ag)))))
  (aq (aI 2 (bo (C .K3) (ae (c2 aB (c2 lu (cN aR aah) (c2 bP (af 0) aag)) (cN aR (ae (cN aR (ae aas (ae aaV ag))) ag))) (ae (c2 bP (c2 dU (af 0) aag) abG) ag))))
  (aq (aI 3 (c2 lu (cN aR aah) (c2 aB aac (c2 bP (c2 dU (af 0) abz) aae))))
  (aq (fS (dI (ae (c2 aB aac (c2 bP (c2 dU (af 0) (cK (.int 72))) aag)) ag)) (G5 4) (gy C))
  (aq (aI 5 (cN dM (ae (cN aR (ae aaG (ae aa9 (ae aam (ae aad aaP))))) (ae (cN aR (ae aaG (ae aa3 (ae aam (ae aaw aaK))))) ag))))
  (aq (aI 6 (bo (C .K3) (ae (cN aR (ae (cN aR (ae aaj (ae aa3 (ae (cN aR (ae aam ag)) (ae aaw (ae aaw ag)))))) ag)) (ae (c2 bP (c2 dU (af 0) (cK (.int 1440))) abG) ag))))
  (aq (aI 7 (c2 b_ (bo (C .H_) (ae aaN (ae aaf (ae (af 6) (ae aaw abj))))) aad))
  (aq (aI 6 (c2 aB (af 6) (c2 lu (cN aR aah) (cN rZ (ae aad (ae (c2 km (c2 aB (cK (.int 399)) (c2 bP (c2 dU (af 0) (cK (.int 8640))) aag)) (af 7)) ag))))))
  (bf (cN fM (ae aaN ag)))))))))))
def ig(C:CC)(Z:DD):Sx:=
 (DB gU (bf (aT (Z .h_) aal)) 1 3 (aq (aI 2 (Uw (cN aaR (ae (af 1) (ae (cK (.cls 6)) ag))) (Uw (cN aaR (ae (af 1) (ae (cK (.cls 5)) ag))) (Uw (cN aaR (ae (af 1) (ae (cK (.cls 1)) ag))) (cN aaR (ae (af 1) (ae (cK (.cls 2)) ag)))))))
  (aq (aI 2 (Uw (af 2) (Uw (cN aaR (ae (af 1) (ae (cK (.cls 7)) ag))) (Uw (cN aaR (ae (af 1) (ae (cK (.cls 8)) ag))) (cN aaR (ae (af 1) (ae (cK (.cls 4)) ag)))))))
  (bf (c2 b_ (cN dM (ae abS (ae abQ ag))) (cN vT (ae (Uw (af 2) (Uw (CP (cN aaR (ae (af 1) (ae (cK (.cls 3)) ag)))) (CP (cN aaR (ae (af 1) (ae (cK (.ty "ValueError")) ag)))))) ag)))))))
def fH(C:CC):Sx:=
 (aq (NP (ay (c2 Vw (af 1) abg)) (bf (c2 b_ (af 0) (af 1))) bG)
  (bf aad))
def fF(C:CC):Ex:=(cN dB (ae (af 0) (ae (cK (.ty "bool")) ag)))
def jP(C:CC):Sx:=
 (bf (Fg (cN dB (ae (af 0) (ae (cK (.ty "tuple")) ag))) (Fg (c2 M8 (af 0) (af 1)) (CP (cN Ei (ae (cN SJ (eD [] aa7 cJ (fF C))) ag))))))
def fZ(C:CC)(D:DD):Sx:=(uh (af 1) abp (aT (D .g_) (ae (c2 b_ (af 2) aag) aah)))
def nV(C:CC)(D:DD):Sx:=
 (aq (aI 1 yr)
  (aq (fS aa7 (G5 2) (fZ C D))
  (aq (aI 3 (c2 b_ (af 1) (c2 b_ (c2 b_ (af 0) abA) aac)))
  (bf (cN aR (ae abI (ae aa6 ag)))))))
def eG(C:CC):Sx:=(aq (aI 6 (bo (C .i_) (ae (c2 b_ (af 4) aaW) ag)))
  (aq (aI 7 (wK (ay (c2 M8 (cN cV abb) aaf)) (c2 b_ (af 6) (c2 b_ (af 5) aac)) aa4))
  (aq (aI 3 (c2 aB (af 3) (c2 b_ (af 7) aac)))
  (aq (aI 4 (c2 b_ (af 7) aaf))
  (aI 5 (mP (af 5) (gF (cN cV abb)) iV))))))
def nX(C:CC):Sx:=
 (aq (aI 2 (c2 b_ (af 0) aaL))
  (aq abY
  (aq (aI 4 (c2 b_ (af 2) aag))
  (aq (aI 5 (mP (af 1) (gF aac) iV))
  (aq (mj (ay abx) (eG C))
  (bf (af 3)))))))
def ij(C:CC):Sx:=
 (aq (jc (af 1) aad (c2 aB aaL aac))
  (aq (aI 2 aaL)
  (aq (aI 3 (c2 aB (c2 iG (c2 iG (cK (.int 31)) (af 2)) (af 2)) (c2 iG (cK (.int 7919)) (af 2))))
  (aq (NP (ay (c2 Uq abg aad)) (aI 3 (c2 aB (af 3) (c2 iG (c2 b_ (af 0) (c2 bP (af 2) abg)) (c2 aB aac (c2 dU (af 2) abg))))) bG)
  (bf (c2 dU (c2 bP (c2 iG (af 3) (cK (.int 48271))) (cK (.int 2147483647))) abZ))))))
def jw(C:CC)(D:DD):Ex:=(aT (D .K5) (ae (af 1) (ae (af 2) abT)))
def jM(C:CC)(D:DD):Sx:=
 (bf (bo (C .Ot) (ae (cN SJ (eD [0,1,2,3] (dI (ae (c2 bP (c2 dU (aT (D .J6) aaX) aaO) aag) ag)) cJ (jw C D))) ag)))
def lY(C:CC):Tx:=(ay (c2 U4 aai (cN aR (ae aaB (ae abd (ae aas ag))))))
def mL(C:CC):Ex:=(af 0)
def lR(C:CC)(D:DD):Sx:=
 (aq (aI 2 (cN gk (ae (cK (.int 500)) ag)))
  (aq (fy (aT (D .J4) (ae (c2 aB (af 0) (cN dM aah)) (ae (c2 b_ (af 1) aag) (ae abg (ae aaw (ae aac aaP)))))))
  (aq (NP (ay (c2 pGe abo aad)) (bf (af 1)) bG)
  (bf (c2 aB (mP (af 1) iV (gF aag)) (cN aR (ae (bo (C .Ot) (ae (cN SJ (eD [] (ik (c2 b_ (af 1) aag)) (lY C) (mL C))) ag)) ag)))))))
def dO(C:CC):Sx:=(NP (iU (ay (c2 M8 abo aaB)) (iU (ay (c2 Ry (af 1) abl)) (ay (c2 M8 (c2 b_ aaZ aad) aaB)))) (jc (af 1) abA (cN aR (ae aaB (ae (c2 aB (c2 b_ aaZ aac) abp) ag)))) (fy (cM ei bK (af 1) aaP)))
def nW(C:CC):Sx:=
 (aq (aI 1 abf)
  (aq (fS aa7 (G5 2) (dO C))
  (bf (cN fM aah))))
def bu(C:CC):Sx:=(aq (fy (cM ei bK (af 3) (ae (cN aR (ae abt (ae (af 5) aaP))) ag)))
  (NP (ay (c2 M8 aaW aav)) (aI 3 (c2 jW (af 3) (bo (C .G_) (ae abH (ae abt (ae (c2 aB (af 2) (cN aR (ae (c2 b_ (af 5) aac) ag))) ag)))))) (NP (ay (c2 M8 aaW aaz)) (aI 3 (c2 jW (c2 aB (af 3) (bo (C .G_) (ae (c2 b_ (af 5) aaf) (ae (c2 aB (af 1) (cN aR (ae (af 4) abE))) aaP)))) (bo (C .G_) (ae abH (ae (c2 aB (af 1) (cN aR (ae (af 4) abj))) aaP))))) (NP (iU (ay (c2 M8 aaW aaj)) (ay (c2 fN (c2 b_ (af 5) aag) aaw))) (aI 3 (c2 jW (af 3) (bo (C .G_) (ae (c2 b_ (af 5) aag) (ae abt (ae (c2 aB (af 2) abH) ag)))))) bG))))
def eP(C:CC):Sx:=
 (aq (aI 3 abf)
  (aq (fS abN aa_ (bu C))
  (bf (af 3))))
def fR(C:CC):Sx:=(aI 0 (cN aR (ae (cN aR (ae aav (ae (c2 b_ (cN dM (ae abO (ae (cK (.str [121])) ag))) (c2 bP (af 2) aaf)) (ae aam (ae (af 0) (ae abm ag)))))) ag)))
def iS(C:CC):Sx:=
 (aq (fS (dI aah) (G5 2) (fR C))
  (bf (af 0)))
def bD(C:CC)(D:DD):Sx:=(aI 2 (bo (C .D_) (ae (af 2) (ae (aT (D .n_) (ae (af 3) aah)) ag))))
def dH(C:CC)(D:DD):Sx:=
 (aq (aI 2 (cK (.tup kb)))
  (aq (fS aa7 (G5 3) (bD C D))
  (bf (af 2))))
def bj(C:CC):Sx:=
 (aq (NP abC (bf (cN dM (ae (cN aR (ae aaV (ae (cN aR (ae aax ag)) abR))) ag))) bG)
  (aq (NP (ay (c2 M8 aai aaz)) (bf (cN dM (ae (cN aR (ae (cN aR abE) (ae aaV (ae aaM ag)))) (ae (cN aR (ae (cN aR abj) (ae aaV abR))) ag)))) bG)
  (aq (NP (iU abh (ay (c2 fN abr aaw))) (bf (cN dM (ae (cN aR (ae aaV (ae aaD (ae abr ag)))) ag))) bG)
  (bf abl))))
def fG(C:CC)(D:DD):Sx:=
 (aq (aI 4 (c2 dU (aT (D .J6) aaX) aae))
  (aq (aI 5 (c2 bP (af 4) abv))
  (aq (aI 6 (c2 dU (af 4) abv))
  (aq (NP aa8 abX bG)
  (aq (NP (iU (ay (c2 Uq (af 5) aaO)) (ay (c2 Vw (af 5) aaH))) (bf (aT (D .K4) (ae (af 0) (ae (af 1) (ae (af 2) (ae (af 3) abb)))))) bG)
  (aq (NP (iU ab0 (iU (ay (c2 fN abJ aaw)) (iW (ay (c2 M8 abJ aad)) (ay (c2 Ry (c2 b_ (af 2) aaq) aaV))))) (bf (cN aR (ae aas (ae (aT (D .B_) (ae (af 0) (ae (af 1) (ae (af 2) (ae abJ ag))))) ag)))) bG)
  (aq (NP (iW (ay (c2 M8 (af 5) aad)) (iW ab0 (ay (c2 M8 (c2 b_ (af 2) aaq) aaV)))) (bf (cN aR (ae aaB (ae (c2 b_ (cN dM (ae (cK (.str [97])) (ae (cK (.str [123])) (ae (cK (.str [10])) (ae (cK (.str [60,98,62])) (ae (cK (.str [125,125])) (ae (cK (.str [32,126])) ag))))))) (c2 bP (af 6) abG)) ag)))) bG)
  (aq (aI 7 (bo (C .G7) (ae (aT (D .J6) aaX) aaP)))
  (aq (NP (ay (c2 Vw (af 5) aae)) (bf (cN aR (ae abd (ae (af 7) (ae (c2 b_ (cN dM (ae (cK (.str [119,111,114,100])) (ae (cK (.str [110,117,109,98,101,114])) (ae (cK (.str [113,117,111,116,101,100])) (ae abP (ae (cK (.str [108,105,110,101])) ag)))))) (c2 bP (af 6) aaO)) ag))))) bG)
  (aq (NP (ay (c2 Vw (af 5) aaO)) (aq (aI 8 (c2 b_ (c2 b_ (af 2) aaU) (c2 bP (af 6) aaS)))
  (aq (aI 9 (aT (D .v5) (ae (af 0) (ae (af 1) (ae (bo (C .K1) (ae (af 2) (ae (cN aR abW) ag))) aa1)))))
  (bf (cN aR (ae aav (ae (af 8) (ae (af 7) (ae (af 9) (ae (c2 b_ (cN dM (ae abm (ae (cK (.str [44,32])) (ae (cK (.str [10])) ag)))) (c2 bP (c2 dU (af 6) aaS) aae)) ag))))))))) bG)
  (aq (aI 10 (aT (D .v5) aby))
  (bf (cN aR (ae aaz (ae (af 7) (ae (af 10) (ae (aT (D .v5) aby) ag)))))))))))))))))
def iL(C:CC):Ex:=aax
def aU(C:CC)(D:DD):Sx:=(aq (jc (af 5) aad (c2 km aaW aac))
  (aq (NP (iW (ay (c2 Vw aaW aad)) (ay (c2 Uq (af 4) (cK (.int 40))))) (aq (jc (af 5) aad abA)
  Az) bG)
  (NP (ay (c2 M8 aa4 aav)) (fy (aT (D .J4) (ae (af 0) (ae (c2 b_ (af 6) aae) abV)))) (NP (ay (c2 M8 aa4 aaz)) (fy (aT (D .J4) (ae (af 0) (ae (c2 aB (c2 b_ (af 6) aaf) (c2 b_ (af 6) aae)) abV)))) (NP (ay (c2 M8 aa4 aaj)) (aq (aI 7 (cM ei lA (cN SJ (eD [] aa7 cJ (iL C))) (ae (c2 b_ (af 6) aac) ag)))
  (aq (aI 8 (wK (ay (c2 Vx (c2 b_ (af 6) aag) aaw)) aaw (cN aR (ae (c2 b_ (af 6) aag) abU))))
  (fy (aT (D .J4) (ae (af 0) (ae (c2 b_ (c2 b_ (af 0) (af 7)) aag) (ae (af 7) (ae (af 8) aaY)))))))) (NP (iU (ay (c2 M8 aa4 aas)) (ay (c2 fN (af 3) aaw))) (fy (aT (D .J4) (ae (af 0) (ae abI (ae aa6 (ae aa5 aaY)))))) bG))))))
def ve(C:CC)(D:DD):Sx:=
 (fS (ik (af 1)) (G5 6) (aU C D))
def eo(C:CC):Sx:=
 (bf (cN aR (ae (c2 aB aai aaL) (ae (cN rZ (ae aax (ae abL ag))) (ae (c2 aB aaM (c2 b_ (af 1) aaf)) (ae (cN rZ (ae aaD (ae abq ag))) ag))))))
def aP(C:CC)(D:DD):Sx:=
 (aq (NP abC (bf (bo (C .u_) (ae (aT (D .g_) (ae aaD aah)) ag))) bG)
  (aq (NP (ay (c2 M8 aai aaz)) (bf (bo (C .u_) (ae (aT (D .g_) (ae (c2 aB aaM aaD) aah)) ag))) bG)
  (aq (NP abh (bf (bo (C .u_) (ae (aT (D .k_) aaX) ag))) bG)
  (aq (NP abD (bf (cN aR (ae aac (ae aac (ae aac abj))))) bG)
  (bf (cN aR (ae aac (ae aac (ae aad abE)))))))))
def gS(C:CC):Ex:=(c2 b_ (c2 b_ (af 1) aaU) (c2 bP (c2 aB (c2 dU (af 2) (cK (.int 97))) (c2 iG aaO (af 0))) aaS))
def gK(C:CC):Sx:=
 (aq (aI 2 (cN fM (ae (cN SJ (eD [1,0] (dI (ae (c2 b_ (cN dM (ae aad (ae aad (ae aac (ae aaf (ae aae abj)))))) (c2 bP (c2 dU (af 0) (cK (.int 13))) abG)) ag)) cJ (gS C))) ag)))
  (bf (c2 aB (cN aR (ae (c2 b_ abK (c2 bP (af 0) (cN cV (ae abK ag)))) ag)) (af 2))))
def eS(C:CC):Tx:=(iW (ay (c2 M8 aax aad)) (ay (c2 Ry abK aaV)))
def eV(C:CC):Ex:=(af 0)
def dQ(C:CC)(D:DD):Sx:=
 (aq (aI 5 (cN SJ (eD [2] (ik (c2 b_ (af 2) abF)) (eS C) (eV C))))
  (aq (NP (ay (c2 M8 (af 5) abl)) (bf (cN aR (ae aaB (ae (cK (.str [110,111,110,101])) ag)))) bG)
  (aq (AA (Sd 3 (aO (G5 6) (aO (G5 7) (aO (G5 8) cW)))) (c2 b_ (af 5) (c2 bP (af 4) (cN cV aaJ))))
  (aq (aI 9 (aT (D .B_) (ae (af 0) (ae (af 1) (ae (af 2) (ae (af 7) ag))))))
  (aq (NP (ay (c2 Vx (af 8) aaw)) (bf (cN aR (ae aaj (ae (af 6) (ae (af 9) (ae aaw (ae aaw ag))))))) bG)
  (aq (aI 10 (c2 bP (c2 dU (af 4) aaH) abv))
  (aq (aI 11 (cN fM (ae (mP (c2 b_ (af 2) aaU) (gF (af 10)) (gF (c2 aB (af 10) (af 8)))) ag)))
  (bf (cN aR (ae aaj (ae (af 6) (ae (af 9) (ae (af 11) (ae (aT (D .v5) (ae (af 0) (ae (af 1) (ae (bo (C .K1) (ae (af 2) (ae (af 11) ag))) aa1)))) ag))))))))))))))
def gr(C:CC)(D:DD):Ex:=(bo (C .G7) (ae (aT (D .J6) abU) aah))
def fV(C:CC)(D:DD):Sx:=
 (bf (cN fM (ae (cN SJ (eD [2,0,1] (dI aaK) cJ (gr C D))) ag)))
def iR(C:CC):Sx:=
 (aq (aI 2 (cN oS aal))
  (aq (uh (af 2) aaq (c2 aB (c2 b_ (af 0) aaq) (af 1)))
  (bf (cFz (af 2)))))
def gL(C:CC):Sx:=
 (bf (c2 Vw (c1 cE (af 0)) abg))
def cF(C:CC):Sx:=
 (aq (aI 1 (wK (kL aaM) (c2 aB aaD aac) aad))
  (bf (cN aR (ae (c2 aB aai aac) (ae (c2 aB aax aac) (ae aaM aah))))))
def aZ(C:CC)(D:DD):Sx:=
 (aq (aI 2 (c2 b_ (af 1) aax))
  (aq abY
  (aq (NP (iW (ay (c2 Vx abr aaw)) (ay (c2 M8 (af 3) aad))) (bf (cN aR (ae abo (ae abp (ae aad abE))))) bG)
  (aq (aI 4 (aT (D .g_) (ae abr aah)))
  (aq (aI 5 (wK (kL (c2 b_ (af 4) aaf)) (c2 aB (c2 b_ (af 2) aae) (c2 b_ (af 4) aae)) aad))
  (bf (cN aR (ae (c2 aB abo (c2 iG (af 3) (c2 b_ (af 4) aad))) (ae (cN rZ (ae abp (ae (c2 aB (c2 b_ (af 2) aae) (c2 b_ (af 4) aac)) ag))) (ae (c2 iG (af 3) (c2 b_ (af 4) aaf)) aaJ))))))))))
def bF(C:CC):Sx:=(NP (ay (c2 jj (c2 b_ (af 4) aad) (af 1))) abB bG)
def bt(C:CC):Sx:=
 (aq (fS (ik (bo (C .NT) aal)) (G5 4) (bF C))
  (aq (NP abh (bf (Uw (c2 jj aax (af 3)) (bo (C .o7) (ae (af 0) (ae (c2 b_ (af 3) aax) ag))))) bG)
  (aq (NP abD (bf (Uw (c2 Vx (af 2) aaw) (c2 Ry (cN cV (ae aax ag)) (af 2)))) bG)
  abe)))
def bU(C:CC):Sx:=
 (aq (NP (ay (c2 M8 aai aaB)) (bf aaV) bG)
  (aq (NP abC (bf (cN aR (ae aaM ag))) bG)
  (aq (NP abh (bf aaM) bG)
  (aq (NP abD (bf aax) bG)
  (bf (cN aR (ae aax ag)))))))
def aY(C:CC):Sx:=
 (aq (NP (ay (c2 Ry (cN cV (ae aaM ag)) (cN cV (ae (c2 b_ (af 1) aaf) ag)))) abB bG)
  (aq (NP (iW (ay (c2 Vx abq aaw)) (ay (c2 Vx aaD aaw))) (bf (Uw (c2 fN abq aaw) (c2 fN aaD aaw))) bG)
  (bf (Uw (c2 Ry (cN cV abR) abq) (bo (C .G9) abR)))))
def FL:Nat→CC×DD×NN×DD
 |0=>(fun _ _=>.bad,fun _ _ _=>.bad,fun _ _=>.bad,fun _ _ _=>.bad)
 |k+1=>(fun f ps=>match f with
  |.law=>bp (vd (FL k).1 (FL k).2.1) 1 11 ps
  |.H_=>bp (jN (FL k).1) 5 13 ps
  |.E_=>bp (eZ (FL k).1) 1 4 ps
  |.M_=>bp (gf (FL k).1) 1 8 ps
  |.N_=>bp (jO (FL k).1) 1 8 ps
  |.N5=>bp (ig (FL k).1 (FL k).2.2.2) 1 3 ps
  |.G8=>bp (fH (FL k).1) 2 2 ps
  |.K7=>bp (jP (FL k).1) 2 2 ps
  |.sized=>bp (nV (FL k).1 (FL k).2.1) 1 4 ps
  |.bound=>bp (nX (FL k).1) 2 8 ps
  |.Ot=>bp (nW (FL k).1) 1 3 ps
  |.G_=>bp (eP (FL k).1) 3 6 ps
  |.K3=>bp (iS (FL k).1) 2 3 ps
  |.i_=>bp (bj (FL k).1) 1 1 ps
  |.D_=>bp (eo (FL k).1) 2 2 ps
  |.G7=>bp (gK (FL k).1) 2 3 ps
  |.K1=>bp (iR (FL k).1) 2 3 ps
  |.G9=>bp (gL (FL k).1) 1 1 ps
  |.u_=>bp (cF (FL k).1) 1 2 ps
  |.NT=>bp (bU (FL k).1) 1 1 ps
  |.o7=>bp (aY (FL k).1) 2 2 ps
  |_=>.bad,fun f ps h=>match f with
  |.o9=>eC (eY (FL k).1 (FL k).2.1) 3 13 ps h
  |.J6=>eC (ij (FL k).1) 2 4 ps h
  |.v5=>eC (jM (FL k).1 (FL k).2.1) 4 4 ps h
  |.Pu=>eC (lR (FL k).1 (FL k).2.1) 2 3 ps h
  |.g_=>eC (dH (FL k).1 (FL k).2.1) 2 4 ps h
  |.K5=>eC (fG (FL k).1 (FL k).2.1) 4 11 ps h
  |.J4=>eC (ve (FL k).1 (FL k).2.1) 6 9 ps h
  |.n_=>eC (aP (FL k).1 (FL k).2.1) 2 2 ps h
  |.K4=>eC (dQ (FL k).1 (FL k).2.1) 5 12 ps h
  |.B_=>eC (fV (FL k).1 (FL k).2.1) 4 4 ps h
  |.k_=>eC (aZ (FL k).1 (FL k).2.1) 2 6 ps h
  |.K_=>eC (bt (FL k).1) 4 5 ps h
  |_=>.bad,fun f ps=>match f with
  |_=>.bad,fun f ps h=>match f with
  |.h_=>mZ (cj (FL k).1 (FL k).2.2.2) 1 2 ps h
  |.j7=>mZ (cA (FL k).1 (FL k).2.2.2 (Nat.ble 2 k)) 1 5 ps h
  |.d8=>mZ (cr (FL k).1 (FL k).2.1 (FL k).2.2.2 (Nat.ble 2 k)) 5 9 ps h
  |_=>.bad)
abbrev X_(k:Nat):DD:=(FL k).2.2.2
abbrev F(k:Nat):CC:=(FL k).1
abbrev L(k:Nat):DD:=(FL k).2.1
abbrev M(k:Nat):NN:=(FL k).2.2.1
theorem Lx{k:Nat}:∀(f:Fn) qs v,F k f qs=.ok v→qs.length=(fK f).length:=by
 cases k with
 |zero=>intro f qs v h;cases h
 |succ k=>intro f qs v h;cases f<;>first|exact AC qs v h|cases h
theorem Lw{k:Nat}:∀(f:Fn) qs hs,L k f qs hs≠.bad→qs.length=(fK f).length:=by
 cases k with
 |zero=>intro f qs hs h;exact absurd rfl h
 |succ k=>intro f qs hs h;cases f<;>first|exact AB qs hs h|exact absurd rfl h
theorem Ls{k:Nat}:∀(f:Fn) qs hs,X_ k f qs hs≠.bad→qs.length=(fK f).length:=by
 cases k with
 |zero=>intro f qs hs h;exact absurd rfl h
 |succ k=>intro f qs hs h;cases f with
  |h_=>exact oA (f:=cj (FL k).1 (FL k).2.2.2) (np:=1) (n:=2) qs hs h
  |j7=>exact oA (f:=cA (FL k).1 (FL k).2.2.2 (Nat.ble 2 k)) (np:=1) (n:=5) qs hs h
  |d8=>exact oA (f:=cr (FL k).1 (FL k).2.1 (FL k).2.2.2 (Nat.ble 2 k)) (np:=5) (n:=9) qs hs h
  |_=>exact absurd rfl h
theorem Lu{k:Nat}:∀(f:Fn) qs v h',M k f qs=.ok v h'→qs.length=(fK f).length:=by
 cases k with
 |zero=>intro f qs v h' h;cases h
 |succ k=>intro f qs v h' h;cases f with
  |_=>cases h
set_option genInjectivity false in
set_option genSizeOf false in
structure Sys(K:W.Frag)(mg:Str→Option Value) where
 adr:Fn→Addr
 fd:Fn→FuncData
 NK:Nat→Addr
 ok:∀f,U9 K (mC f) (jR f) (gW f) (adr f) (fd f)
 bi:∀f,eF K (fd f) (fK f) []
 m:∀f,sH f=true→mg (mC f)=some (.ref (adr f))
 n:∀i,mg (HE i)=none
 O2:Value
 K6:mg "MOST_PUT_IN"=some O2
 Qq:bn (.int 400) O2
 M6:Value
 o8:mg "MOST_PUT_IN_DEPTH"=some M6
 Oi:bn (.int 24) M6
 Ri:Addr
 Oo:mg "NOTHING"=some (.ref Ri)
 Om:Ge K Ri kb
 Q5:mg "FormError"=some (.ref (NK 0))
 S9:mg "BadWay"=some (.ref (NK 1))
 Q6:mg "BadValues"=some (.ref (NK 2))
 QG:mg "TooMany"=some (.ref (NK 3))
 Tv:mg "Clash"=some (.ref (NK 4))
 R8:mg "BadText"=some (.ref (NK 5))
 Pg:mg "BadName"=some (.ref (NK 6))
 R7:mg "Unclear"=some (.ref (NK 7))
 S8:mg "NoFill"=some (.ref (NK 8))
 N7:W.excIn K (NK 3) [.type "ValueError",.type "Exception",.type "BaseException",.type "object"] "ValueError.__new__"=true
 n6:W.exmOne K (.ref (NK 3)) (.ref (NK 0))=some true
 n8:W.exmOne K (.ref (NK 6)) (.ref (NK 0))=some true
 cg_:tK K
 R9:wP K (NK 3)
 RP:tF K (NK 3)
 R_:wP K (NK 6)
 RQ:tF K (NK 6)
 t_:W.kitOne K (.ref (NK 3)) (.ref (NK 6))=some false
 q_:W.kitOne K (.ref (NK 3)) (.ref (NK 5))=some false
 m7:W.kitOne K (.ref (NK 3)) (.ref (NK 2))=some false
 w6:W.kitOne K (.ref (NK 3)) (.ref (NK 1))=some false
 G3:W.kitOne K (.ref (NK 3)) (.ref (NK 4))=some false
 v9:W.kitOne K (.ref (NK 3)) (.ref (NK 8))=some false
 p8:W.kitOne K (.ref (NK 3)) (.ref (NK 3))=some true
 p7:W.kitOne K (.ref (NK 3)) (.ref (NK 7))=some false
 j9:W.kitOne K (.ref (NK 3)) (.type "ValueError")=some true
 u9:W.kitOne K (.ref (NK 6)) (.ref (NK 6))=some true
 u6:W.kitOne K (.ref (NK 6)) (.ref (NK 5))=some false
 m_:W.kitOne K (.ref (NK 6)) (.ref (NK 2))=some false
 A_:W.kitOne K (.ref (NK 6)) (.ref (NK 1))=some false
 G4:W.kitOne K (.ref (NK 6)) (.ref (NK 4))=some false
 z_:W.kitOne K (.ref (NK 6)) (.ref (NK 8))=some false
 u5:W.kitOne K (.ref (NK 6)) (.ref (NK 3))=some false
 u0:W.kitOne K (.ref (NK 6)) (.ref (NK 7))=some false
 j_:W.kitOne K (.ref (NK 6)) (.type "ValueError")=some true
 Qv:Wx K (NK 6) (adr .d7) "at"
def Sys.tab{K:W.Frag}{mg:Str→Option Value}(Y:Sys K mg):Tab
 |0=>some (Y.NK 0)
 |1=>some (Y.NK 1)
 |2=>some (Y.NK 2)
 |3=>some (Y.NK 3)
 |4=>some (Y.NK 4)
 |5=>some (Y.NK 5)
 |6=>some (Y.NK 6)
 |7=>some (Y.NK 7)
 |8=>some (Y.NK 8)
 |_=>none
section
variable(P:Program)(w:World){K:W.Frag}{mg:Str→Option Value}{base:Heap}
abbrev All(Y:Sys K mg)(base:Heap)(k:Nat):Prop:=∀f,cP P w K mg base QT k (Y.adr f) (Y.fd f) (fK f) (Wj K Y.tab (fK f).length (F k f))
abbrev nD(Y:Sys K mg)(base:Heap)(k:Nat):Prop:=∀f,cP P w K mg base QT k (Y.adr f) (Y.fd f) (fK f) (Um K Y.tab (fK f).length (L k f))
abbrev pP(Y:Sys K mg)(base:Heap)(k:Nat):Prop:=∀f,cP P w K mg base (Rb P w) k (Y.adr f) (Y.fd f) (fK f) (Um K Y.tab (fK f).length (X_ k f))
abbrev tM(Y:Sys K mg)(base:Heap)(k:Nat):Prop:=∀f,cP P w K mg base QT k (Y.adr f) (Y.fd f) (fK f) (Rc K Y.tab (fK f).length (M k f))
theorem lI(Y:Sys K mg):Dj K Y.tab U5 Vu Vc:=by
 refine⟨Y.cg_,fun C a h ha=>?_,fun C a h ha=>?_,fun C D a b r h ha hb=>?_,fun C t a r h ha=>?_⟩
 ·unfold U5 at h;split at h
  ·cases h
  ·cases h
  ·cases h
 ·unfold U5 at h;split at h
  ·cases ha;exact⟨Y.RP,Y.R9⟩
  ·cases ha;exact⟨Y.RQ,Y.R_⟩
  ·cases h
 ·refine qx (P:=fun C D r=>∀a b,Y.tab C=some a→Y.tab D=some b→W.kitOne K (.ref a) (.ref b)=some r) ?_ h a b ha hb;exact⟨fun _ _ ha hb=>(by cases ha;cases hb;exact Y.t_),⟨fun _ _ ha hb=>(by cases ha;cases hb;exact Y.q_),⟨fun _ _ ha hb=>(by cases ha;cases hb;exact Y.m7),⟨fun _ _ ha hb=>(by cases ha;cases hb;exact Y.w6),⟨fun _ _ ha hb=>(by cases ha;cases hb;exact Y.G3),⟨fun _ _ ha hb=>(by cases ha;cases hb;exact Y.v9),⟨fun _ _ ha hb=>(by cases ha;cases hb;exact Y.p8),⟨fun _ _ ha hb=>(by cases ha;cases hb;exact Y.p7),⟨fun _ _ ha hb=>(by cases ha;cases hb;exact Y.u9),⟨fun _ _ ha hb=>(by cases ha;cases hb;exact Y.u6),⟨fun _ _ ha hb=>(by cases ha;cases hb;exact Y.m_),⟨fun _ _ ha hb=>(by cases ha;cases hb;exact Y.A_),⟨fun _ _ ha hb=>(by cases ha;cases hb;exact Y.G4),⟨fun _ _ ha hb=>(by cases ha;cases hb;exact Y.z_),⟨fun _ _ ha hb=>(by cases ha;cases hb;exact Y.u5),⟨fun _ _ ha hb=>(by cases ha;cases hb;exact Y.u0),True.intro⟩⟩⟩⟩⟩⟩⟩⟩⟩⟩⟩⟩⟩⟩⟩⟩
 ·unfold Vc at h;split at h
  ·cases ha;cases h;exact Y.j9
  ·cases ha;cases h;exact Y.j_
  ·cases h
theorem nA(Y:Sys K mg):∀C Ca,gU C=true→Y.tab C=some Ca→W.exmOne K (.ref Ca) (.ref (Y.NK 0))=some true:=by
 intro C Ca h ha;unfold gU at h;split at h
 ·cases ha;exact Y.n6
 ·cases ha;exact Y.n8
 ·cases h
theorem sc:∀f,gM (oU f) (fK f) (aK (gW f)):=fun f=>by cases f<;>exact⟨rfl,rfl,rfl,by decide+kernel,rfl,by decide+kernel,by decide+kernel⟩
section
variable{X:Cx}{T:Tab}{Ew:XK}{e a b:Expr}{es:List Expr}{f g:Ex}{fs:Ax}{pos p0:Pos}
theorem rst{x:Str}{l:List Nat}{j pos}(e:x=S l:=by kernel_rfl):RE X T Ew (.Constant (.str x) j pos) (cK (.str l)):=GU l e
theorem ra1(ha:RE X T Ew e f)(hs:starEach [e] X.env=(false,eval e X.env)::starEach [] X.env:=by rfl):RA X T Ew [e] (ae f ag):=au ha mt hs
theorem rdi{keys:List (Option Expr)}{values:List Expr}{fs:List (Ex×Ex)}(h:YH X T Ew pos keys values fs)(Ue:keys.all (·.isSome)=true:=by rfl)(hl:keys.length=values.length:=by rfl)(h0:keys≠ []:=by intro z;cases z)(Xu:keys.length≤15:=by decide)(hfl:fs.length=keys.length:=by rfl):RE X T Ew (.Dict keys values pos) (uY fs):=DJ h Ue hl h0 Xu hfl
def ZC(P:Program)(w:World)(K:W.Frag)(mg:Str→Option Value)(base:Heap)(A:Around)(T:Tab)(x:Str)(fn:List PV→Out):Prop:=∃k f fd ps,cP P w K mg base QT k f fd ps (Wj K T ps.length fn)∧(∀qs v,fn qs=.ok v→qs.length=ps.length)∧bZ k A∧mg x=some (.ref f)∧W.keepIn K (.ref f)=true∧eF K fd ps []
theorem zc{x:Str}{fn:List PV→Out}(c:ZC X.prog X.w X.K X.mg X.base X.A T x fn)(hg:Gl X x)(ha:RA X T Ew (e::es) fs)(Ql:nD0 x:=by decide)(he:sE0 X e es:=by rfl)(Oc:sP0 X es pos:=by rfl):RE X T Ew (.Call (.Name x p0) (e::es) [] pos) (bo fn fs):=by obtain⟨k,f,fd,ps,G,l,hr,m,kp,bi⟩:=c;exact DL G l hr hg m kp bi ha Ql he Oc
def ZL(P:Program)(w:World)(K:W.Frag)(mg:Str→Option Value)(base:Heap)(A:Around)(T:Tab)(x:Str)(fn:List PV→List PO→Res PV):Prop:=∃k f fd ps,cP P w K mg base QT k f fd ps (Um K T ps.length fn)∧(∀qs hs,fn qs hs≠.bad→qs.length=ps.length)∧bZ k A∧mg x=some (.ref f)∧W.keepIn K (.ref f)=true∧eF K fd ps []
theorem Wz{x:Str}{fn:List PV→List PO→Res PV}(c:ZL X.prog X.w X.K X.mg X.base X.A T x fn)(hg:Gl X x)(ha:RA X T Ew (e::es) fs)(Ql:nD0 x:=by decide)(he:sE0 X e es:=by rfl)(Oc:sP0 X es pos:=by rfl):RE X T Ew (.Call (.Name x p0) (e::es) [] pos) (aT fn fs):=by obtain⟨k,f,fd,ps,G,l,hr,m,kp,bi⟩:=c;exact AO G l hr hg m kp bi ha Ql he Oc
def ZG(P:Program)(w:World)(K:W.Frag)(mg:Str→Option Value)(base:Heap)(A:Around)(T:Tab)(x:Str)(fn:List PV→List PO→Res PV):Prop:=∃k f fd ps,cP P w K mg base (Rb P w) k f fd ps (Um K T ps.length fn)∧(∀qs hs,fn qs hs≠.bad→qs.length=ps.length)∧bZ k A∧mg x=some (.ref f)∧W.keepIn K (.ref f)=true∧eF K fd ps []
theorem YS{x:Str}{fn:List PV→List PO→Res PV}(c:ZG X.prog X.w X.K X.mg X.base X.A T x fn)(hp:eQ (Rb X.prog X.w) X Ew)(hg:Gl X x)(ha:RA X T Ew (e::es) fs)(Ql:nD0 x:=by decide)(he:sE0 X e es:=by rfl)(Oc:sP0 X es pos:=by rfl):RE X T Ew (.Call (.Name x p0) (e::es) [] pos) (aT fn fs):=by obtain⟨k,f,fd,ps,G,l,hr,m,kp,bi⟩:=c;exact uo G l hp hr hg m kp bi ha Ql he Oc
theorem wW{k:Nat}{A:Around}(Y:Sys K mg)(G:pP P w Y base k)(hr:bZ k A)(f:Fn)(hp:sH f=true):ZG P w K mg base A Y.tab (mC f) (X_ k f):=⟨_,_,_,_,G f,Ls f,hr,Y.m f hp,(Y.ok f).kp,Y.bi f⟩
def ZN(P:Program)(w:World)(K:W.Frag)(mg:Str→Option Value)(base:Heap)(A:Around)(T:Tab)(x:Str)(fn:List PV→Res PV):Prop:=∃k f fd ps,cP P w K mg base QT k f fd ps (Rc K T ps.length fn)∧(∀qs v h',fn qs=.ok v h'→qs.length=ps.length)∧bZ k A∧mg x=some (.ref f)∧W.keepIn K (.ref f)=true∧eF K fd ps []
theorem zty{x:Str}{n:String}(hm:X.mg x=none)(hg:Gl X x:=by rfl)(hv:bootBuiltins x=some (.type n):=by decide+kernel)(hn:x≠"__name__":=by decide)(hd:nD0 x:=by decide):RE X T Ew (.Name x pos) (cK (.ty n)):=GT hg hm hv hn hd
theorem zis{p1:Pos}{x:Str}{n:String}(hi:X.mg "isinstance"=none)(hm:X.mg x=none)(ha:RE X T Ew e f)(hg:Gl X "isinstance":=by rfl)(h1:Gl X x:=by rfl)(hv:bootBuiltins x=some (.type n):=by decide+kernel)(hn:x≠"__name__":=by decide)(hd:nD0 x:=by decide)(he:starEach [e,.Name x p1] X.env=(false,eval e X.env)::starEach [.Name x p1] X.env:=by rfl)(h2:starEach [.Name x p1] X.env=(false,eval (.Name x p1) X.env)::starEach [] X.env:=by rfl)(Oc:(backTo pos (starEach [.Name x p1] X.env)).any (·.1)=false:=by rfl):RE X T Ew (.Call (.Name "isinstance" p0) [e,.Name x p1] [] pos) (cN dB (ae f (ae (cK (.ty n)) ag))):=yV hg hi (au ha (au (zty hm h1 hv hn hd) mt h2) he) he Oc
theorem zl(hm:X.mg "len"=none)(ha:RE X T Ew e f)(hg:Gl X "len":=by rfl)(he:starEach [e] X.env=(false,eval e X.env)::starEach [] X.env:=by rfl)(Oc:(backTo pos (starEach [] X.env)).any (·.1)=false:=by rfl):RE X T Ew (.Call (.Name "len" p0) [e] [] pos) (cN cV (ae f ag)):=GW hg hm (ra1 ha he) he Oc
theorem req(hu:X.A.units+64<cLine)(ha:RE X T Ew a f)(hb:RE X T Ew b g)(hm:behindInMarks .Eq b=false:=by exact cH _):RE X T Ew (.Compare a [.Eq] [b] pos) (c2 M8 f g):=ki (BE hu) xE ha hb hm
theorem ZS(hu:X.A.units+64<cLine)(ha:RE X T Ew a f)(hb:RE X T Ew b g)(hm:behindInMarks .Eq b=false:=by exact cH _):RT X T Ew (.Compare a [.Eq] [b] pos) (ay (c2 M8 f g)):=cT (BE hu) xE ha hb hm
theorem gZ{i:Nat}{x:Str}{pos':Pos}(hN:X.N.Nodup)(ha:RE X T Ew a f)(hi:X.N[i]? =some x:=by rfl)(hx:Loc X.env.scope x:=by first|exact .inl rfl|exact .inr rfl)(hs:swapsWith a (some (.Name x pos')) pos.line X.env=pure false:=by rfl)(hf:X.fn x=true∨X.env.scope.names.lookup x=some .local:=by first|exact .inl rfl|exact .inr rfl):RS X T Ew (.Assign [.Name x pos'] a pos) (aI i f):=GO hN hi hx ha hs hf
theorem Dl{k:Nat}{A:Around}(Y:Sys K mg)(G:All P w Y base k)(hr:bZ k A)(f:Fn)(hp:sH f=true):ZC P w K mg base A Y.tab (mC f) (F k f):=⟨_,_,_,_,G f,Lx f,hr,Y.m f hp,(Y.ok f).kp,Y.bi f⟩
theorem wV{k:Nat}{A:Around}(Y:Sys K mg)(G:nD P w Y base k)(hr:bZ k A)(f:Fn)(hp:sH f=true):ZL P w K mg base A Y.tab (mC f) (L k f):=⟨_,_,_,_,G f,Lw f,hr,Y.m f hp,(Y.ok f).kp,Y.bi f⟩
theorem IA{k:Nat}{A:Around}(Y:Sys K mg)(G:tM P w Y base k)(hr:bZ k A)(f:Fn)(hp:sH f=true):ZN P w K mg base A Y.tab (mC f) (M k f):=⟨_,_,_,_,G f,Lu f,hr,Y.m f hp,(Y.ok f).kp,Y.bi f⟩
theorem zr(ha:RE X T Ew e f):Tr X T Ew [.Return (some e) pos] (bf f):=bV (GP ha)
end
theorem nZ(Y:Sys K mg):cP P w K mg base QT 1 (Y.adr .d7) (Y.fd .d7) (fK .d7) (vC K "at"):=Cr (Y.ok .d7) (sc .d7) rfl fun _ _ _ _ _ _=>xx (DS (pv 0) (pv 1) rfl)
def bO(k:Nat):Fn→Sx
 |.law=>vd (F k) (L k)
 |.H_=>jN (F k)
 |.E_=>eZ (F k)
 |.M_=>gf (F k)
 |.N_=>jO (F k)
 |.G8=>fH (F k)
 |.K7=>jP (F k)
 |.sized=>nV (F k) (L k)
 |.bound=>nX (F k)
 |.J6=>ij (F k)
 |.v5=>jM (F k) (L k)
 |.Pu=>lR (F k) (L k)
 |.Ot=>nW (F k)
 |.G_=>eP (F k)
 |.K3=>iS (F k)
 |.g_=>dH (F k) (L k)
 |.i_=>bj (F k)
 |.K5=>fG (F k) (L k)
 |.J4=>ve (F k) (L k)
 |.D_=>eo (F k)
 |.n_=>aP (F k) (L k)
 |.G7=>gK (F k)
 |.K4=>dQ (F k) (L k)
 |.B_=>fV (F k) (L k)
 |.K1=>iR (F k)
 |.G9=>gL (F k)
 |.u_=>cF (F k)
 |.k_=>aZ (F k) (L k)
 |.K_=>bt (F k)
 |.NT=>bU (F k)
 |.o7=>aY (F k)
 |_=>bG
def iZ:Fn→Bool
 |.o9=>false
 |.N5=>false
 |.h_=>false
 |.j7=>false
 |.d8=>false
 |.d7=>false
 |_=>true
theorem ck{N:List Str}{Ve scope:Scope}{g8:List Nat}{x:Str}{M:List Str}(_:M=x::g8.map fun i=>N.getD i "")(h:sV N Ve scope g8 x M=true):eA N Ve scope g8 x M:=eA.of h
def RX(Y:Sys K mg)(base:Heap)(k:Nat)(f:Fn)(b:Sx):Prop:=∀(K9:Value)(A:Around)(outer:List Env)(s:Shared)(H:Hp)(E:XK)(fa:Addr),bZ k (A.deeper (envOfC (jR f) (aK (gW f)) s.heap.objs.size fa K9))→Tr (jy (Rb P w) P w K mg base (oU f) (jR f) (aK (gW f)) fa K9 A outer s H E) Y.tab E (cO (gW f)) b
def RR(Y:Sys K mg)(base:Heap)(k:Nat)(f:Fn)(b:Sx):Prop:=∀(K9:Value)(A:Around)(outer:List Env)(s:Shared)(H:Hp)(E:XK)(fa:Addr),bZ k (A.deeper (envOfC (jR f) (aK (gW f)) s.heap.objs.size fa K9))→Tr (jy QT P w K mg base (oU f) (jR f) (aK (gW f)) fa K9 A outer s H E).Wm Y.tab (fun _ _ _=>False) (cO (gW f)) b
theorem rF(Y:Sys K mg){k:Nat}(G:All P w Y base k)(GL:nD P w Y base k)(GG:pP P w Y base k):RX P w Y base k .h_ (cj (F k) (X_ k)):=fun K9 A outer s H E f hr=>by have hu:=hr.units;have hN:=(sc .h_).nd;have n:=Y.n;have c:=Dl P w Y G hr;have d:=wV P w Y GL hr;have zx:=wW P w Y GG hr;have hp:eQ (Rb P w) (jy (Rb P w) P w K mg base (oU .h_) (jR .h_) (aK (gW .h_)) f K9 A outer s H E) E:=jF.passes fun _ _ _ h=>h;exact(aS (jC (YS (zx .j7 rfl) hp rfl (ra1 (rv 0))))
  (aS (gZ hN (zc (c .sized rfl) rfl (ra1 (rv 0))))
  (aS (mS (RW.rt (qg (cT uz dZ (cU hu (rv 1) aM) (ul rfl Y.K6 Y.Qq) (cH _)) (rG (cT uz dZ (cU hu (rv 1) aM) (ul rfl Y.o8 Y.Oi) (cH _))))) (bV (AE PySem.F.excBase_ValueError (by decide+kernel) PySem.F.excBase_ValueError Y.N7 rfl rfl Y.QG jF (ra1 rst))) gB)
  (zr (cU hu (cU hu (rv 0) (AJ aM)) aM)))))
theorem pT(Y:Sys K mg){k:Nat}(G:All P w Y base k)(GL:nD P w Y base k)(GG:pP P w Y base k):RX P w Y base k .j7 (cA (F k) (X_ k) (Nat.ble 2 k)):=fun K9 A outer s H E f hr=>by have hu:=hr.units;have hN:=(sc .j7).nd;have n:=Y.n;have c:=Dl P w Y G hr;have d:=wV P w Y GL hr;have zx:=wW P w Y GG hr;have hp:eQ (Rb P w) (jy (Rb P w) P w K mg base (oU .j7) (jR .j7) (aK (gW .j7)) f K9 A outer s H E) E:=jF.passes fun _ _ _ h=>h;exact(aS (gZ hN xt)
  (bV (oB (by with_unfolding_all exact PassesOwn.leaving) rfl (rN rfl (n .enumerate) (ra1 (rv 0))) (vI (jd (gD hN rfl (Or.inl rfl)) (jd (gD hN rfl (Or.inl rfl)) rO))) (aS (gZ hN (req hu (rv 2) (rQ (zl (n .len) (rv 0)) aM)))
  (aS (mS (RW.rt (qg (cT (sf hu) nI (cU hu (rv 3) aM) (rv 1) (by with_unfolding_all rfl)) (qg (rK (zc (c .G9 rfl) rfl (ra1 (cU hu (rv 3) aM)))) (rG (RW.rt (rJ (rK (rv 4)) (rH (cT sd kj (cU hu (rv 3) aM) vK (cH _))))))))) (bV (qh (nZ P w Y) Y.Qv (Y.bi .d7) hr rfl rfl Y.Pg jF (ra1 (kh (ra1 (rv 2)))))) gB)
  (aS (jC (YS (zx .d8 rfl) hp rfl (au (cU hu (rv 3) aM) (au (kh (ra1 (rv 2))) (au (cU hu (rv 3) aM) (au (cU hu (rv 3) aM) (ra1 (rv 1))))))))
  (bV (xq hu (rv 1) (cU hu (rv 3) aM) (rv 3)))))))))
theorem pS(Y:Sys K mg){k:Nat}(G:All P w Y base k)(GL:nD P w Y base k)(GG:pP P w Y base k):RX P w Y base k .d8 (cr (F k) (L k) (X_ k) (Nat.ble 2 k)):=fun K9 A outer s H E f hr=>by have hu:=hr.units;have hN:=(sc .d8).nd;have n:=Y.n;have c:=Dl P w Y G hr;have d:=wV P w Y GL hr;have zx:=wW P w Y GG hr;have hp:eQ (Rb P w) (jy (Rb P w) P w K mg base (oU .d8) (jR .d8) (aK (gW .d8)) f K9 A outer s H E) E:=jF.passes fun _ _ _ h=>h;exact(bV (oB (by with_unfolding_all exact PassesOwn.leaving) rfl (rN rfl (n .enumerate) (ra1 (rv 0))) (vI (jd (gD hN rfl (Or.inl rfl)) (jd (gD hN rfl (Or.inl rfl)) rO))) (aS (gZ hN (fT (rv 1) (kh (ra1 (rv 5)))))
  (aS (mS (rK (Wz (d .K_ rfl) rfl (au (rv 6) (au (rv 2) (au (rv 3) (ra1 (rv 4))))))) (bV (qh (nZ P w Y) Y.Qv (Y.bi .d7) hr rfl rfl Y.Pg jF (ra1 (rv 7)))) gB)
  (bV (oB (by with_unfolding_all exact PassesOwn.leaving) rfl (AG (zc (c .i_ rfl) rfl (ra1 (rv 6)))) (gD hN rfl (Or.inl rfl)) (bV (jC (YS (zx .d8 rfl) hp rfl (au (cU hu (rv 8) aM) (au (fT (rv 7) (cU hu (rv 8) aM)) (au (fT (rv 2) (cU hu (rv 8) aM)) (au (rv 3) (ra1 (rv 4)))))))))))))))
theorem fg(Y:Sys K mg){k:Nat}{f:Fn}{b:Sx}(h:RX P w Y base k f b):cP P w K mg base (Rb P w) (k+1) (Y.adr f) (Y.fd f) (fK f) (Um K Y.tab (fK f).length (mZ b (fK f).length (oU f).length)):=Cs (Y.ok f) (sc f) fun K9 A outer s H E hr=>h K9 A outer s H E _ hr
theorem fp(Y:Sys K mg){k:Nat}{f:Fn}{b:Sx}(h:RR P w Y base k f b):cP P w K mg base QT (k+1) (Y.adr f) (Y.fd f) (fK f) (Wj K Y.tab (fK f).length (bp b (fK f).length (oU f).length)):=ER (Y.ok f) (sc f) fun K9 A outer s H E hr=>h K9 A outer s H E _ hr
theorem fl(Y:Sys K mg){k:Nat}{f:Fn}{b:Sx}(h:RR P w Y base k f b):cP P w K mg base QT (k+1) (Y.adr f) (Y.fd f) (fK f) (Um K Y.tab (fK f).length (eC b (fK f).length (oU f).length)):=ES (Y.ok f) (sc f) fun K9 A outer s H E hr=>h K9 A outer s H E _ hr
section
variable(Y:Sys K mg){k:Nat}(G:All P w Y base k)(GL:nD P w Y base k)(GN:tM P w Y base k)(GG:pP P w Y base k)
include G GL GN GG
theorem rz{f:Fn}{b:Sx}(h:∀(K9:Value)(A:Around)(outer:List Env)(s:Shared)(H:Hp)(E:XK)(fa:Addr),bZ k (A.deeper (envOfC (jR f) (aK (gW f)) s.heap.objs.size fa K9))→(A.deeper (envOfC (jR f) (aK (gW f)) s.heap.objs.size fa K9)).units+64<cLine→(oU f).Nodup→(∀i,mg (HE i)=none)→(∀(g:Fn),sH g=true→ZC P w K mg base (A.deeper (envOfC (jR f) (aK (gW f)) s.heap.objs.size fa K9)) Y.tab (mC g) (F k g))→(∀(g:Fn),sH g=true→ZL P w K mg base (A.deeper (envOfC (jR f) (aK (gW f)) s.heap.objs.size fa K9)) Y.tab (mC g) (L k g))→(∀(g:Fn),sH g=true→ZN P w K mg base (A.deeper (envOfC (jR f) (aK (gW f)) s.heap.objs.size fa K9)) Y.tab (mC g) (M k g))→(∀(g:Fn),sH g=true→ZG P w K mg base (A.deeper (envOfC (jR f) (aK (gW f)) s.heap.objs.size fa K9)) Y.tab (mC g) (X_ k g))→Tr (jy QT P w K mg base (oU f) (jR f) (aK (gW f)) fa K9 A outer s H E).Wm Y.tab (fun _ _ _=>False) (cO (gW f)) b):RR P w Y base k f b:=fun K9 A outer s H E fa hr=>h K9 A outer s H E fa hr hr.units (sc f).nd Y.n (Dl P w Y G hr) (wV P w Y GL hr) (IA P w Y GN hr) (wW P w Y GG hr)
theorem pU:RR P w Y base k .o9 (eY (F k) (L k)):=rz P w Y G GL GN GG fun _ _ _ _ _ _ _ hr hu hN n c d m zx=>(aS (gZ hN (rS mt))
  (aS (gZ hN (rS mt))
  (aS (gZ hN (cU hu (rT (au aM (au aM (au aM (au aM (au aM (au aM (au aM (ra1 aM))))))))) (je (iB (Wz (d .J6 rfl) rfl (au (rv 0) (ra1 (rv 1)))) aM) aM)))
  (aS (oB PassesOwn.never rfl (mq rfl (n .range) (ra1 (rv 5))) (gD hN rfl (Or.inl rfl)) (aS (gZ hN (Wz (d .J6 rfl) rfl (au (rv 0) (ra1 (rv 1)))))
  (aS (gZ hN (oF rfl (n .tuple) (ra1 (iC (M:=["_law_j","_law_menu","_law_n"]) _ rfl (eA.of (by kernel_rfl)) (mq rfl (n .range) (ra1 (je (rv 7) aM))) (fun _ _ _ _ _=>rP) (fun _ _ _ _ _=>(cU hu (rv 1) (je (fT (iB (rv 2) aM) (rv 0)) aM)))))))
  (aS (gZ hN vK)
  (aS (mS (RW.rt (rJ (cT uz dZ (je (iB (rv 7) aM) aM) aM (cH _)) (rH (cT BC dZ (rv 6) (rQ (rv 5) aM) (cH _))))) (bV (gZ hN (je (iB (rv 7) aM) aM))) gB)
  (aS (gZ hN (rdi (kU rst (rv 8) (kU rst (DI rfl (n .list) (ra1 (rv 4))) (kU rst (rv 9) (kU rst (rv 2) DE))))))
  (aS (ui (rv 1) aM (rQ (fT (cU hu (rv 1) aM) aM) (AK aM (rV rfl (n .int) (ra1 (ki uz dZ (rv 5) aM (cH _)))))))
  (aS (gZ hN (Wz (d .v5 rfl) rfl (au (rv 0) (au (rv 1) (au (rv 10) (ra1 aM))))))
  (aS (mS (RW.rt (qg (ZS hu (rv 11) (kh mt)) (rG (ZS hu (je (iB (rv 7) aM) aM) aM)))) (bV (gZ hN (fT (rv 11) (Wz (d .v5 rfl) rfl (au (rv 0) (au (rv 1) (au (rv 10) (ra1 aM)))))))) gB)
  (aS (gZ hN (cU hu (rv 2) (je (fT (iB (rv 7) aM) (rv 6)) aM)))
  (aS (mS (cT (sf hu) nI (rv 12) (um (M:=["_law_piece"]) (j:=4) _ rfl (eA.of (by kernel_rfl)) (fun _ _ _ _ _=>rP) (fun _ _ _ _ _=>(cU hu (rv 0) aM)) Cg (by unfold dF;exact FG FF (Ch _) (JM _))) (by with_unfolding_all rfl)) (bV (gZ hN (cU hu (rT (au rst (au rst (au rst (au rst (au rst (au rst (au rst (ra1 rst))))))))) (rv 6)))) gB)
  (aS (mS (cT (sf hu) nI (rv 12) (um (M:=["_law_piece"]) (j:=4) _ rfl (eA.of (by kernel_rfl)) (fun _ _ _ _ _=>rP) (fun _ _ _ _ _=>(cU hu (rv 0) aM)) Cg (by unfold dE;exact FG FF (Ch _) (JM _))) (by with_unfolding_all rfl)) (bV (gZ hN (fT (rv 12) rst))) gB)
  (aS (jC (uq rc PySem.F.plainAttrs_list PySem.F.slot_list_append PySem.F.type_list_append mG jh (rv 3) (ra1 (Wz (d .Pu rfl) rfl (au (rv 3) (ra1 (kh (au rst (au (rv 12) (au (rv 8) (au (rv 9) (ra1 (zc (c .Ot rfl) rfl (ra1 (rv 11)))))))))))))))
  (bV (jC (uq rc PySem.F.plainAttrs_list PySem.F.slot_list_append PySem.F.type_list_append mG jh (rv 4) (ra1 (kh (au (rv 12) (au (zl (n .len) (rv 8)) (ra1 (rv 9))))))))))))))))))))))
  (zr (oF rfl (n .tuple) (ra1 (rv 3))))))))
theorem AR:RR P w Y base k .N5 (ig (F k) (X_ k)):=rz P w Y G GL GN GG fun _ _ _ _ _ _ _ hr hu hN n c d m zx=>(bV (GM (nA Y) (fun pn W Eb hp=>(zr (YS (zx .h_ rfl) hp rfl (ra1 (rv 0))))) (fun pn a=>(aS (gZ hN (kX (iA (lI Y) rfl (n .isinstance) (au (rv 1) (ra1 (fA rfl Y.Pg rfl)))) (kX (iA (lI Y) rfl (n .isinstance) (au (rv 1) (ra1 (fA rfl Y.R8 rfl)))) (kX (iA (lI Y) rfl (n .isinstance) (au (rv 1) (ra1 (fA rfl Y.S9 rfl)))) (rR (iA (lI Y) rfl (n .isinstance) (au (rv 1) (ra1 (fA rfl Y.Q6 rfl)))))))))
  (aS (gZ hN (kX (rv 2) (kX (iA (lI Y) rfl (n .isinstance) (au (rv 1) (ra1 (fA rfl Y.R7 rfl)))) (kX (iA (lI Y) rfl (n .isinstance) (au (rv 1) (ra1 (fA rfl Y.S8 rfl)))) (rR (iA (lI Y) rfl (n .isinstance) (au (rv 1) (ra1 (fA rfl Y.Tv rfl)))))))))
  (zr (cU hu (rT (au rst (ra1 rst))) (rV rfl (n .int) (ra1 (kX (rv 2) (kX (vJ (iA (lI Y) rfl (n .isinstance) (au (rv 1) (ra1 (fA rfl Y.QG rfl))))) (rR (vJ (iA (lI Y) rfl (n .isinstance) (au (rv 1) (ra1 (zty (n .ValueError)))))))))))))))) hN rfl rfl rfl Y.Q5))
theorem rr:∀f,iZ f=true→RR P w Y base k f (bO k f):=fun f hf=>by
 cases f<;>cases hf<;>exact rz P w Y G GL GN GG fun _ _ _ _ _ _ _ hr hu hN n c d m zx=>by
  unfold bO
  (repeat' first
   |exact rv _
   |exact aM
   |refine au ?_ ?_
   |refine ra1 ?_
   |refine cU hu ?_ ?_
   |exact rst
   |refine aS ?_ ?_
   |refine kh ?_
   |refine gZ hN ?_
   |refine zr ?_
   |refine fT ?_ ?_
   |refine mS ?_ ?_ ?_
   |refine bV ?_
   |refine ZS hu ?_ ?_
   |exact gB
   |refine zc (c _ rfl) rfl ?_
   |refine je ?_ ?_
   |exact vK
   |refine Wz (d _ rfl) rfl ?_
   |exact gD hN rfl (Or.inl rfl)
   |refine rT ?_
   |refine iB ?_ ?_
   |exact mt
   |refine zl (n .len) ?_
   |refine jd ?_ ?_
   |refine oB PassesOwn.never rfl ?_ ?_ ?_
   |refine AG ?_
   |refine AK ?_ ?_
   |refine DF ?_
   |refine qg ?_ ?_
   |refine yT ?_ ?_ ?_
   |refine rG ?_
   |exact DG
   |refine jC ?_
   |refine rQ ?_ ?_
   |refine AJ ?_
   |refine mq rfl (n .range) ?_
   |refine rJ ?_ ?_
   |refine cT uz dZ ?_ ?_ (cH _)
   |refine cT (BB hu) xC ?_ ?_ (cH _)
   |exact IY
   |exact rP
   |refine cT BC dZ ?_ ?_ (cH _)
   |exact rO
   |refine vI ?_
   |refine cT BD xD ?_ ?_ (cH _)
   |refine GV rfl (n .max) ?_
   |refine rH ?_
   |refine rS ?_
   |refine AL ?_ ?_ ?_
   |refine uq rc PySem.F.plainAttrs_list PySem.F.slot_list_append PySem.F.type_list_append mG jh ?_ ?_
   |refine ui ?_ ?_ ?_
   |refine oF rfl (n .tuple) ?_
   |refine rR ?_
   |refine rK ?_
   |refine DH ?_ ?_
   |refine cT sd kj ?_ ?_ (cH _)
   |refine kX ?_ ?_
   |refine GR ?_ ?_
   |refine zis (n .isinstance) (n .tuple) ?_
   |refine iC (M:=["_law_one_here"]) _ rfl (ck (by rfl) (by kernel_rfl)) ?_ (fun _ _ _ _ _=>?_) (fun _ _ _ _ _=>?_)
   |refine req hu ?_ ?_
   |refine uq Gn PySem.F.plainAttrs_str PySem.F.slot_str_join PySem.F.type_str_join Ey yY ?_ ?_
   |refine GS ?_
   |refine DM ?_ ?_
   |refine GK ?_
   |refine uq rc PySem.F.plainAttrs_list PySem.F.slot_list_index PySem.F.type_list_index zq uv ?_ ?_
   |refine rN rfl (n .enumerate) ?_
   |refine rV rfl (n .int) ?_
   |refine vL rfl (n .len) rfl (n .set) ?_
   |refine cT (sf hu) nI ?_ ?_ (by with_unfolding_all rfl)
   |refine GY ?_ ?_
   |refine xq hu ?_ ?_ ?_
   |refine ki (BB hu) xC ?_ ?_ (cH _)
   |refine ki sd kj ?_ ?_ (cH _)
   |exact gD hN rfl (Or.inr rfl)
   |refine uj (M:=["_law_j","_law_some","_law_n","_law_k"]) _ rfl (ck (by rfl) (by kernel_rfl)) ?_ (fun _ _ _ _ _=>?_) (fun _ _ _ _ _=>?_) (iy:=6) hN rfl rfl (by with_unfolding_all rfl)
   |refine iC (M:=["_law_name","_law_told_here"]) _ rfl (ck (by rfl) (by kernel_rfl)) ?_ (fun _ _ _ _ _=>?_) (fun _ _ _ _ _=>?_)
   |refine zis (n .isinstance) (n .bool) ?_
   |refine GX rfl (n .any) ?_
   |refine vJ ?_
   |exact xt
   |refine AD PassesOwn.never ?_ ?_
   |refine iC (M:=["_law_k","_law_cells","_law_spot","_law_at","_law_deep"]) _ rfl (ck (by rfl) (by kernel_rfl)) ?_ (fun _ _ _ _ _=>?_) (fun _ _ _ _ _=>?_)
   |refine cT Jw dZ ?_ ?_ (cH _)
   |refine iC (M:=["_law_node"]) _ rfl (ck (by rfl) (by kernel_rfl)) ?_ (fun _ _ _ _ _=>?_) (fun _ _ _ _ _=>?_)
   |exact AM rfl Y.Oo Y.Om
   |exact DC
   |refine iC (M:=["_law_k","_law_at","_law_n"]) _ rfl (ck (by rfl) (by kernel_rfl)) ?_ (fun _ _ _ _ _=>?_) (fun _ _ _ _ _=>?_)
   |refine vG (M:=["_law_piece","_law_at"]) _ rfl (ck (by rfl) (by kernel_rfl)) ?_ (fun _ _ _ _ _=>?_) (fun _ _ _ _ _=>?_) (iy:=5) hN rfl rfl (by with_unfolding_all rfl)
   |refine iC (M:=["_law_k","_law_at","_law_cells","_law_spot"]) _ rfl (ck (by rfl) (by kernel_rfl)) ?_ (fun _ _ _ _ _=>?_) (fun _ _ _ _ _=>?_)
   |refine AN rfl (n .dict) ?_
   |refine IX ?_
   |refine ki BC dZ ?_ ?_ (cH _)
   |refine cT (qr hu) oN ?_ ?_ (by with_unfolding_all rfl)
   |refine ki (qr hu) oN ?_ ?_ (by with_unfolding_all rfl)
   |refine ki BD xD ?_ ?_ (cH _)
   |refine RW.rt (rJ ?_ ?_)
   |refine RW.rt (qg ?_ ?_))
end
theorem all_nil(Y:Sys K mg):All P w Y base 0:=fun f=>⟨fun vs H Q E h=>(by obtain⟨_,_,_,_,_,_,e,_⟩:=h;cases e),fun A outer s H args us vs Q E _ _ _ _ h=>(by obtain⟨_,_,_,_,_,_,e,_⟩:=h;cases e)⟩
theorem nlL(Y:Sys K mg){k:Nat}{ad:Addr}{fd:FuncData}{ps:List Str}{n:Nat}:cP P w K mg base QT k ad fd ps (Um K Y.tab n fun _ _=>.bad):=⟨fun vs H Q E h=>by obtain⟨_,_,_,_,_,_,_,e⟩:=h;exact e.elim,fun A outer s H args us vs Q E _ _ _ _ h=>by obtain⟨_,_,_,_,_,_,_,e⟩:=h;exact e.elim⟩
theorem nlN(Y:Sys K mg){k:Nat}{ad:Addr}{fd:FuncData}{ps:List Str}{n:Nat}:cP P w K mg base QT k ad fd ps (Rc K Y.tab n fun _=>.bad):=⟨fun vs H Q E h=>by obtain⟨_,_,_,_,_,e⟩:=h;exact e.elim,fun A outer s H args us vs Q E _ _ _ _ h=>by obtain⟨_,_,_,_,_,e⟩:=h;exact e.elim⟩
theorem Db(Y:Sys K mg):tM P w Y base 0:=fun f=>nlN P w Y
theorem Dc(Y:Sys K mg):nD P w Y base 0:=fun f=>nlL P w Y
theorem Da(Y:Sys K mg){k:Nat}(G:All P w Y base k)(GL:nD P w Y base k)(GN:tM P w Y base k)(GG:pP P w Y base k):All P w Y base (k+1):=fun f=>by
  cases f<;>first
   |exact fp P w Y (rr P w Y G GL GN GG _ rfl)
   |exact fp P w Y (AR P w Y G GL GN GG)
   |exact⟨fun vs H Q E h=>(by obtain⟨_,_,_,_,_,_,e,_⟩:=h;cases e),fun A outer s H args us vs Q E _ _ _ _ h=>(by obtain⟨_,_,_,_,_,_,e,_⟩:=h;cases e)⟩
theorem zS(Y:Sys K mg){k:Nat}(G:All P w Y base k)(GL:nD P w Y base k)(GN:tM P w Y base k)(GG:pP P w Y base k):nD P w Y base (k+1):=fun f=>by
  cases f<;>first
   |exact fl P w Y (rr P w Y G GL GN GG _ rfl)
   |exact fl P w Y (pU P w Y G GL GN GG)
   |exact nlL P w Y
theorem zR(Y:Sys K mg){k:Nat}(G:All P w Y base k)(GL:nD P w Y base k)(GN:tM P w Y base k)(GG:pP P w Y base k):tM P w Y base (k+1):=fun f=>by
  cases f with
  |_=>exact nlN P w Y
theorem nlG(Y:Sys K mg){k:Nat}{ad:Addr}{fd:FuncData}{ps:List Str}{n:Nat}:cP P w K mg base (Rb P w) k ad fd ps (Um K Y.tab n fun _ _=>.bad):=⟨fun vs H Q E h=>by obtain⟨_,_,_,_,_,_,_,e⟩:=h;exact e.elim,fun A outer s H args us vs Q E _ _ _ _ h=>by obtain⟨_,_,_,_,_,_,_,e⟩:=h;exact e.elim⟩
theorem zT(Y:Sys K mg){k:Nat}(G:All P w Y base k)(GL:nD P w Y base k)(GN:tM P w Y base k)(GG:pP P w Y base k):pP P w Y base (k+1):=fun f=>by
  cases f with
  |h_=>exact fg P w Y (rF P w Y G GL GG)
  |j7=>exact fg P w Y (pT P w Y G GL GG)
  |d8=>exact fg P w Y (pS P w Y G GL GG)
  |_=>exact nlG P w Y
theorem yz(Y:Sys K mg):∀k,All P w Y base k∧nD P w Y base k∧tM P w Y base k∧pP P w Y base k
 |0=>⟨all_nil P w Y,Dc P w Y,Db P w Y,fun f=>nlG P w Y⟩
 |k+1=>by obtain⟨a,b,c,d⟩:=yz Y k;exact⟨Da P w Y a b c d,zS P w Y a b c d,zR P w Y a b c d,zT P w Y a b c d⟩
theorem pJ(Y:Sys K mg)(k:Nat):All P w Y base k:=(yz P w Y k).1
end
def adP(K:W.Frag)(C:Nat→Addr):Fn→Addr→Prop
 |.d7,a=>W.findIn K (.ref (C 6)) "__init__"=some (some (.ref a))∧W.isFn K (.ref a)=true∧W.keepIn K (.ref a)=true
 |f,a=>W.nsIn K mainGlobals (mC f)=some (some (.ref a))
theorem us0{us:List Value}(h:us.length=0):us= []:=List.eq_nil_of_length_eq_zero h
theorem WL{n:Nat}{us:List Value}(h:us.length=n+1):∃a r,us=a::r∧r.length=n:=by
 cases us with
 |nil=>cases h
 |cons a r=>exact⟨a,r,rfl,by simpa using h⟩
theorem us1{us:List Value}(h:us.length=1):∃a,us= [a]:=by obtain⟨a,r,rfl,z⟩:=WL h;obtain rfl:=us0 z;exact⟨a,rfl⟩
theorem us2{us:List Value}(h:us.length=2):∃a b,us= [a,b]:=by obtain⟨a,r,rfl,z⟩:=WL h;obtain⟨b,rfl⟩:=us1 z;exact⟨a,b,rfl⟩
theorem us3{us:List Value}(h:us.length=3):∃a b c,us= [a,b,c]:=by obtain⟨a,r,rfl,z⟩:=WL h;obtain⟨b,c,rfl⟩:=us2 z;exact⟨a,b,c,rfl⟩
theorem us4{us:List Value}(h:us.length=4):∃a b c d,us= [a,b,c,d]:=by obtain⟨a,r,rfl,z⟩:=WL h;obtain⟨b,c,d,rfl⟩:=us3 z;exact⟨a,b,c,d,rfl⟩
theorem us5{us:List Value}(h:us.length=5):∃a b c d e,us= [a,b,c,d,e]:=by obtain⟨a,r,rfl,z⟩:=WL h;obtain⟨b,c,d,e,rfl⟩:=us4 z;exact⟨a,b,c,d,e,rfl⟩
theorem us6{us:List Value}(h:us.length=6):∃a b c d e f,us= [a,b,c,d,e,f]:=by obtain⟨a,r,rfl,z⟩:=WL h;obtain⟨b,c,d,e,f,rfl⟩:=us5 z;exact⟨a,b,c,d,e,f,rfl⟩
theorem us7{us:List Value}(h:us.length=7):∃a b c d e f g,us= [a,b,c,d,e,f,g]:=by obtain⟨a,r,rfl,z⟩:=WL h;obtain⟨b,c,d,e,f,g,rfl⟩:=us6 z;exact⟨a,b,c,d,e,f,g,rfl⟩
theorem fq{K:W.Frag}{Ad:Addr→Prop}{nm ql:Str}{st:Stmt}{ps:List Str}{f:Addr}{od an:Option Addr}{sl:Array (Option Value)}{oc kV dc pm cd ct:Value}(a:Ad f)(l:K.lookup f=some ⟨oc,od,.func (W.fnOf nm ql (jI st) (cO st) (aK st) .none kV dc pm an cd ct),sl⟩)(c:W.codeIn K cd ql=true)(k:W.keepIn K (.ref f)=true)(b:∀(kV doc pm:Value)(an:Option Addr)(K9 ct:Value)(us:List Value),us.length=ps.length→bindArgs (W.fnOf nm ql (jI st) (cO st) (aK st) .none kV doc pm an K9 ct) ⟨us,[]⟩=pure (ps.zip us)):∃a fd,Ad a∧U9 K nm ql st a fd∧eF K fd ps []:=⟨f,_,a,Co l c k,(Co l c k).binds b⟩
theorem Im{l:W.OpenLaw}{w:World}{K:W.Frag}{h:Heap}{mg:Str→Option Value}{fa:Addr}(aau:∀ns:List Int,ns.length≤63→F 140 .law [.Qs (ns.map PV.int)]=.ok (.bl true))(X:K.In h)(G:h.Ns mainGlobals mg)(hfa:mg "law"=some (.ref fa))
  {OJ:Addr}
  {Q_:Addr}
  {O1:Addr}
  {j5:Addr}
  {RN:Addr}
  {Qk:Addr}
  {f9:Addr}
  {Qj:Addr}
  {Q9:Addr}
  {Qp:Tok}
  {Oh:Tok}
  {Rm:Addr} {Uy:Nat} {T8:Array (Option Value)} {Ua:Option Addr} {Rq:Tok} {Rp:Tok} {Ro:Tok} {Rn:Tok}
  (Pj:W.nsIn K mainGlobals "FormError"=some (some (.ref OJ)))
  (Rk:W.nsIn K mainGlobals "BadWay"=some (some (.ref Q_)))
  (Pk:W.nsIn K mainGlobals "BadValues"=some (some (.ref O1)))
  (QL:W.nsIn K mainGlobals "TooMany"=some (some (.ref j5)))
  (Sq:W.nsIn K mainGlobals "Clash"=some (some (.ref RN)))
  (QM:W.nsIn K mainGlobals "BadText"=some (some (.ref Qk)))
  (QS:W.nsIn K mainGlobals "BadName"=some (some (.ref f9)))
  (QK:W.nsIn K mainGlobals "Unclear"=some (some (.ref Qj)))
  (Rj:W.nsIn K mainGlobals "NoFill"=some (some (.ref Q9)))
  (Zt:W.specialIn K (.builtin "object.__class__") "__get__"=some (some (.builtin "getset_descriptor.__get__")))
  (cg2:W.takesIn K (.builtin "object.__class__")=some true)
  (Qf:W.findIn K (.ref j5) "__class__"=some (some (.builtin "object.__class__")))
  (Qd:W.mroIn K j5 (.type "object")=some true)
  (Qa:(W.clsIn K j5).isSome=true)
  (Qg:W.findIn K (.ref f9) "__class__"=some (some (.builtin "object.__class__")))
  (Qe:W.mroIn K f9 (.type "object")=some true)
  (Qc:(W.clsIn K f9).isSome=true)
  (t_:W.kitOne K (.ref j5) (.ref f9)=some false)
  (q_:W.kitOne K (.ref j5) (.ref Qk)=some false)
  (m7:W.kitOne K (.ref j5) (.ref O1)=some false)
  (w6:W.kitOne K (.ref j5) (.ref Q_)=some false)
  (G3:W.kitOne K (.ref j5) (.ref RN)=some false)
  (v9:W.kitOne K (.ref j5) (.ref Q9)=some false)
  (p8:W.kitOne K (.ref j5) (.ref j5)=some true)
  (p7:W.kitOne K (.ref j5) (.ref Qj)=some false)
  (j9:W.kitOne K (.ref j5) (.type "ValueError")=some true)
  (u9:W.kitOne K (.ref f9) (.ref f9)=some true)
  (u6:W.kitOne K (.ref f9) (.ref Qk)=some false)
  (m_:W.kitOne K (.ref f9) (.ref O1)=some false)
  (A_:W.kitOne K (.ref f9) (.ref Q_)=some false)
  (G4:W.kitOne K (.ref f9) (.ref RN)=some false)
  (z_:W.kitOne K (.ref f9) (.ref Q9)=some false)
  (u5:W.kitOne K (.ref f9) (.ref j5)=some false)
  (u0:W.kitOne K (.ref f9) (.ref Qj)=some false)
  (j_:W.kitOne K (.ref f9) (.type "ValueError")=some true)
  (OD:W.findIn K (.ref f9) "__getattribute__"=some (some (.builtin "BaseException.__getattribute__")))
  (Oz:W.findIn K (.ref f9) "__getattr__"=some none)
  (Ow:W.mroIn K f9 (.type "BaseException")=some true)
  (PX:W.findIn K (.ref j5) "__getattribute__"=some (some (.builtin "BaseException.__getattribute__")))
  (PN:W.findIn K (.ref j5) "__getattr__"=some none)
  (PL:W.mroIn K j5 (.type "BaseException")=some true)
  (N7:W.excIn K j5 [.type "ValueError",.type "Exception",.type "BaseException",.type "object"] "ValueError.__new__"=true)
  (n6:W.exmOne K (.ref j5) (.ref OJ)=some true)
  (n8:W.exmOne K (.ref f9) (.ref OJ)=some true)
  (QC:wX K f9 [.type "ValueError",.type "Exception",.type "BaseException",.type "object"] "ValueError.__new__"=true)
  (QB:W.keepIn K (.ref f9)=true)
  (Qz:Gj K f9=true)
  (Qy:W.findIn K (.ref f9) "__setattr__"=some (some (.builtin "object.__setattr__")))
  (Qx:W.findIn K (.ref f9) "at"=some none)
  (Qw:W.hasDictIn K f9=true)
  (hf:∀f:Fn,∃a fd,adP K (fun i=>match i with|6=>f9|_=>0) f a∧U9 K (mC f) (jR f) (gW f) a fd∧eF K fd (fK f) [])
  (K6:W.nsIn K mainGlobals "MOST_PUT_IN"=some (some (.int 400 Qp)))
  (o8:W.nsIn K mainGlobals "MOST_PUT_IN_DEPTH"=some (some (.int 24 Oh)))
  (Oo:W.nsIn K mainGlobals "NOTHING"=some (some (.ref Rm)))
  (Om:K.lookup Rm=some ⟨.type "tuple",Ua,.seq #[.int 0 Rq,.int 0 Rp,.int 0 Ro,.int 0 Rn] Uy,T8⟩)
  (hn:∀i:Nt,W.nsIn K mainGlobals (HE i)=some none):
  ∃fd:FuncData,(∀(s:Shared)(v:Value),BindsTo s fd ⟨[v],[]⟩ [("_law_script",v)])∧∀base:Heap,K.In base→base.Ns mainGlobals mg→cP l.prog w K mg base QT 140 fa fd ["_law_script"] (xh K):=by
 let Y:Sys K mg:={
  adr:=fun f=>(hf f).choose
  fd:=fun f=>(hf f).choose_spec.choose
  ok:=fun f=>(hf f).choose_spec.choose_spec.2.1
  bi:=fun f=>(hf f).choose_spec.choose_spec.2.2
  m:=fun f hp=>W.mg_of X G (by have q:=(hf f).choose_spec.choose_spec.1;cases f<;>first|exact q|cases hp)
  n:=fun i=>W.mg_none_of X G (hn i)
  NK:=fun i=>match i with|0=>OJ|1=>Q_|2=>O1|3=>j5|4=>RN|5=>Qk|6=>f9|7=>Qj|8=>Q9|_=>0
  Q5:=W.mg_of X G Pj
  S9:=W.mg_of X G Rk
  Q6:=W.mg_of X G Pk
  QG:=W.mg_of X G QL
  Tv:=W.mg_of X G Sq
  R8:=W.mg_of X G QM
  Pg:=W.mg_of X G QS
  R7:=W.mg_of X G QK
  S8:=W.mg_of X G Rj
  N7:=N7
  n6:=n6
  n8:=n8
  cg_:=⟨Zt,cg2⟩
  R9:=⟨Qf,Qd,Qa⟩
  RP:=⟨PX,PN,PL⟩
  R_:=⟨Qg,Qe,Qc⟩
  RQ:=⟨OD,Oz,Ow⟩
  t_:=t_
  q_:=q_
  m7:=m7
  w6:=w6
  G3:=G3
  v9:=v9
  p8:=p8
  p7:=p7
  j9:=j9
  u9:=u9
  u6:=u6
  m_:=m_
  A_:=A_
  G4:=G4
  z_:=z_
  u5:=u5
  u0:=u0
  j_:=j_
  Qv:=⟨QC,(hf .d7).choose_spec.choose_spec.1.1,(hf .d7).choose_spec.choose_spec.1.2.1,QB,Qz,Qy,Qx,Qw,⟨OD,Oz,Ow⟩⟩
  O2:=_
  K6:=W.mg_of X G K6
  Qq:=⟨Qp,by rfl⟩
  M6:=_
  o8:=W.mg_of X G o8
  Oi:=⟨Oh,by rfl⟩
  Ri:=Rm
  Oo:=W.mg_of X G Oo
  Om:=⟨_,_,_,[.int 0,.int 0,.int 0,.int 0],Om,rfl,rfl,by show 4≤sizeLine;decide,(.cons ⟨Rq,rfl⟩ (.cons ⟨Rp,rfl⟩ (.cons ⟨Ro,rfl⟩ (.cons ⟨Rn,rfl⟩ .nil)))),fun _ _ _=>(.cons (.int _) (.cons (.int _) (.cons (.int _) (.cons (.int _) .nil))))⟩ }
 have e:=(Y.m .law rfl).symm.trans hfa;obtain rfl:Y.adr .law=fa:=by injection e with e1;injection e1
 exact⟨Y.fd .law,fun s v=>by obtain⟨_,_,_,_,_,_,_,_,_,e,_⟩:=(Y.ok .law).ex;rw[e];exact .of_eq rfl,fun base _ _=>(pJ l.prog w Y 140 .law).imp (yL aau)⟩
end K8
namespace L3
open PySem L2
section
variable(ρ:Ev)(h:List PO)
@[simp] theorem Ia(i:Nat):af i ρ h=match ρ[i]? with|some (some p)=>.ok (aj h p) h|_=>.bad:=rfl
theorem NB(v:PV):cK v ρ h=.ok v h:=rfl
theorem Ml:ag ρ h=.ok [] h:=rfl
theorem JY:iV ρ h=.ok none h:=rfl
theorem KL:bG ρ h=.nx ρ h:=rfl
@[simp] theorem cC(f g:Sx):aq f g ρ h=match f ρ h with|.nx ρ1 h1=>g ρ1 h1|.rt v h1=>.rt v h1|.bk ρ1 h1=>.bk ρ1 h1|.ct ρ1 h1=>.ct ρ1 h1|.exc v h1=>.exc v h1|.bad=>.bad:=rfl
theorem JX:Az ρ h=.rt .non h:=rfl
theorem Mm(i:Nat)(p:PV):G5 i p ρ=some (ρ.set i (some p)):=rfl
end
section
variable(h:List PO)
theorem Mr(i:Int):aj h (.int i)=.int i:=rfl
theorem Nn(i:Bool):aj h (.bl i)=.bl i:=rfl
theorem Mo(i:List Nat):aj h (.str i)=.str i:=rfl
theorem Mp:aj h .non=.non:=rfl
theorem Mn(i:List PV):aj h (.tup i)=.tup i:=rfl
theorem Mq(i:List PV):aj h (.lst i)=.lst i:=rfl
theorem Ms(i:List PV):aj h (.Qs i)= .Qs i:=rfl
theorem KM(xs:List PV)(r:List PO):aj (.lst xs::r) (.ref 0)=.ref 0:=rfl
@[simp] theorem Ip(a b:List PV):vU (.lst a) (.lst b) h=if a.length+b.length≤sizeLine then .ok (.lst (a++b)) h else .bad:=rfl
theorem Lh(i j:Int):km (.int i) (.int j) h=.ok (.int (i - j)) h:=rfl
theorem Lp(i j:Int):iG (.int i) (.int j) h=if hJ i j=true then .ok (.int (i * j)) h else .bad:=rfl
theorem MK(C:Int→Int→Bool)(g:Int→Int→Int)(i j:Int):pI C g (.int i) (.int j) h=if C i j=true then .ok (.int (g i j)) h else .bad:=rfl
theorem ML(i:Int):ng (.int i) h=.ok (.int (-i)) h:=rfl
theorem Mu(g:Int→Int→Bool)(i j:Int):zj g (.int i) (.int j) h=.ok (.bl (g i j)) h:=rfl
theorem Nz(p:PV):Vx p .non h=.ok (.bl (jr p)) h:=rfl
theorem KJ(p:PV):fN p .non h=.ok (.bl (!jr p)) h:=rfl
theorem Ni(l:List Nat)(i:Int):b_ (.str l) (.int i) h=match O8 l i with|some c=>if l.length≤sizeLine then .ok (.str [c]) h else .bad|none=>.bad:=rfl
@[simp] theorem xY(l:List PV)(i:Int):b_ (.tup l) (.int i) h=match O8 l i with|some v=>.ok (aj h v) h|none=>.bad:=rfl
@[simp] theorem xZ(l:List PV)(i:Int):b_ (.lst l) (.int i) h=match O8 l i with|some v=>.ok (aj h v) h|none=>.bad:=rfl
@[simp] theorem JP(l:List PV)(i:Int):b_ (.Qs l) (.int i) h=match O8 l i with|some v=>.ok (aj h v) h|none=>.bad:=rfl
theorem BY(l:List PV):cV [.tup l] h=.ok (.int l.length) h:=rfl
theorem JF(l:List PV):cV [.lst l] h=.ok (.int l.length) h:=rfl
@[simp] theorem FE(l:List PV):cV [.Qs l] h=.ok (.int l.length) h:=rfl
theorem Lr(ps:List PV):dM ps h=if ps.length≤sizeLine then .ok (.lst ps) h else .bad:=rfl
theorem Ks(ps:List PV):gk ps h=if ps.length≤sizeLine then .ok (.ref h.length) (h++ [.lst ps])else .bad:=rfl
theorem KQ(ps:List PV):aR ps h=if ps.length≤sizeLine then .ok (.tup ps) h else .bad:=rfl
theorem Ll(ps:List PV):SJ ps h=.ok (.lst ps) h:=rfl
theorem Kr(ps:List PV):Er ps h=.ok (.ref h.length) (h++ [.lst ps]):=rfl
theorem Nk(b:Bool):vT [.bl b] h=.ok (.int (if b then 1 else 0)) h:=rfl
theorem Kp(l:List PV):jb (.tup l) h=.ok l h:=rfl
theorem Kq(l:List PV):jb (.lst l) h=.ok l h:=rfl
theorem KK(x:List Nat):qI h (.str x)=true:=rfl
theorem Mk(i:Bool):gR h (.bl i)=some (.bl i,h):=by simp[gR,PV.pure]
theorem MG(b:Bool):ua h (.bl b)=some b:=rfl
theorem MF(b:Int):ua h (.int b)=some (b !=0):=rfl
theorem FQ(l:List Nat):dB [.str l,.ty "bool"] h=.ok (.bl false) h:=rfl
theorem FR(l:Int):dB [.int l,.ty "bool"] h=.ok (.bl false) h:=rfl
theorem EF(l:List PV):dB [.tup l,.ty "tuple"] h=.ok (.bl true) h:=rfl
end
theorem szl:(sizeLine:Nat)=16777216:=by decide
theorem zQ(fn:List PV→Out)(ps:List PV)(h:List PO):bg fn ps h=match N8 ps h with|some (qs,h2)=>(match fn qs with|.ok v=>.ok v h2|.bad=>.bad)|none=>.bad:=rfl
theorem sw{i j:Int}(h:RM 18446744073709551616 j=true):hJ i j=true:=by unfold hJ;rw[h,Bool.true_or,Bool.or_true]
theorem HJ{i j:Int}(h:JE i j=true):hJ i j=true:=by unfold hJ;rw[h,Bool.or_true,Bool.or_true]
theorem HI{i j:Int}(h:RM 18446744073709551616 i=true):hJ i j=true:=by unfold hJ;rw[h,Bool.true_or]
theorem Bz(a b:List Nat)(h:List PO)(ha:∀c∈a,c<1114112)(hb:∀c∈b,c<1114112):M8 (.str a) (.str b) h=.ok (.bl (decide (a=b))) h:=by
 have ok:∀l:List Nat,(∀c∈l,c<1114112)→PB h (.str l)=true:=by intro l hl;unfold PB Qm;simp only[toD,PyData.canLay0,PyData.depth];simp[PyData.strOk,S];exact hl
 unfold M8;rw[if_pos ⟨ok a ha,ok b hb⟩]
 have e:PyData.eqv (Qm h (.str a)) (Qm h (.str b))=decide (a=b):=by
  show PyData.eqv (toD (.str a)) (toD (.str b))=_;simp only[toD,PyData.eqv]
  by_cases q:a=b
  ·subst q;simp
  ·have:¬ S a=S b:=fun z=>q (yC z);simp[q,this]
 rw[e]
theorem CY{α:Type}{xs:List α}{i:Int}(d:α)(h0:0≤i)(h1:i<(xs.length:Int)):O8 xs i=some (xs.getD i.toNat d):=by refine dj h0 ?_;rw[List.getD_eq_getElem?_getD,List.getElem?_eq_getElem (by omega)];rfl
theorem gp{α:Type}{xs:List α}{n:Nat}{d:α}(h:n<xs.length):xs.getD n d∈xs:=by rw[List.getD_eq_getElem?_getD,List.getElem?_eq_getElem h];exact List.getElem_mem h
theorem qG:∀ls:List (List Nat),jZ [] ls=ls.flatten
 |[]=>rfl
 |[x]=>by simp[jZ]
 |x::y::r=>by show x++ []++jZ [] (y::r)=_;rw[qG (y::r),List.append_nil];rfl
theorem By{sep:List Nat}{q:PV}{ls:List (List Nat)}{h:List L3.PO}(e:Tp h q=some (ls.map PV.str))(hz:(ls.map (fun l=>l.length)).sum+ls.length * sep.length≤16777216):lv (.str sep) [q] h=.ok (.str (jZ sep ls)) h:=by unfold lv;simp only[e,yJ,hz,if_true]
theorem Eh{ls:List (List Nat)}{h:List L3.PO}(hz:(ls.map (fun l=>l.length)).sum≤16777216):lv (.str []) [.lst (ls.map PV.str)] h=.ok (.str ls.flatten) h:=by rw[By (ls:=ls) rfl (by simpa using hz),qG]
theorem Kh(xs:List PV)(r:List L3.PO)(p:PV):bK (.ref 0) [p] (.lst xs::r)=if xs.length<sizeLine then .ok .non (.lst (xs++ [p])::r)else .bad:=rfl
theorem HV(xs:List PV)(r:List L3.PO):ei (.lst xs::r) (.ref 0)=true:=rfl
theorem BA(a b:Int)(h:List L3.PO):M8 (.int a) (.int b) h=.ok (.bl (decide (a=b))) h:=by
 have ok:∀l:Int,PB h (.int l)=true:=fun l=>by unfold PB Qm;simp[toD,PyData.canLay0,PyData.depth]
 unfold M8;rw[if_pos ⟨ok a,ok b⟩]
 have e:PyData.eqv (Qm h (.int a)) (Qm h (.int b))=decide (a=b):=by
  show PyData.eqv (toD (.int a)) (toD (.int b))=_;simp only[toD,PyData.eqv]
  by_cases q:a=b<;>simp[q]
 rw[e]
theorem gN(a b:Int)(h:List L3.PO):Ry (.int a) (.int b) h=.ok (.bl (!decide (a=b))) h:=by
 have ok:∀l:Int,PB h (.int l)=true:=fun l=>by unfold PB Qm;simp[toD,PyData.canLay0,PyData.depth]
 unfold Ry;rw[if_pos ⟨ok a,ok b⟩]
 have e:PyData.eqv (Qm h (.int a)) (Qm h (.int b))=decide (a=b):=by
  show PyData.eqv (toD (.int a)) (toD (.int b))=_;simp only[toD,PyData.eqv]
  by_cases q:a=b<;>simp[q]
 rw[e]
variable{m:Nat}{raw Zb:List Nat}
open PySem.NumText (digitsVal AllDigits)
section
variable(h:List L3.PO)(ρ:Ev)
theorem Ko(xs:List PV):fM [.lst xs] h=.ok (.tup xs) h:=rfl
end
theorem oT{l:List Nat}(h:List L3.PO)(hl:∀c∈l,c<1114112):PB h (.str l)=true:=by unfold PB Qm;simp only[toD,PyData.canLay0,PyData.depth];simp[PyData.strOk,S];exact hl
theorem Ib(a b:List Nat)(ha:∀c∈a,c<1114112)(hb:∀c∈b,c<1114112):PyData.eqv (toD (.str a)) (toD (.str b))=decide (a=b):=by
 have:=Bz a b [] ha hb;unfold M8 at this;rw[if_pos ⟨oT [] ha,oT [] hb⟩]at this;injection this with this
 injection this
theorem tE{x:List Nat}(hx:∀c∈x,c<1114112):∀{ls:List (List Nat)},(∀l∈ls,∀c∈l,c<1114112)→((ls.map PV.str).any fun y=>PyData.eqv (toD y) (toD (.str x)))=decide (x∈ls)
 |[],_=>rfl
 |l::r,h=>by rw[List.map_cons,List.any_cons,Ib l x (h l (by simp)) hx,tE hx fun z hz=>h z (List.mem_cons_of_mem _ hz),Bool.eq_iff_iff,Bool.or_eq_true,decide_eq_true_eq,decide_eq_true_eq,decide_eq_true_eq,List.mem_cons];exact or_congr eq_comm Iff.rfl
theorem pJ:∀{ls:List (List Nat)},(∀l∈ls,∀c∈l,c<1114112)→(ls.map PV.str).all (PB [])=true
 |[],_=>rfl
 |l::r,h=>by rw[List.map_cons,List.all_cons,oT [] (h l (by simp)),pJ fun z hz=>h z (List.mem_cons_of_mem _ hz)];rfl
theorem FS{x:List Nat}{ls:List (List Nat)}(hx:∀c∈x,c<1114112)(hl:∀l∈ls,∀c∈l,c<1114112)(h:List L3.PO):zi (.str x) (.tup (ls.map PV.str)) h=some (decide (x∈ls)):=by show(if PB [] (.str x)=true∧(ls.map PV.str).all (PB [])=true then some ((ls.map PV.str).any fun y=>PyData.eqv (toD y) (toD (.str x)))else none)=_;rw[if_pos ⟨oT [] hx,pJ hl⟩,tE hx hl]
theorem JR{x:List Nat}{ls:List (List Nat)}(hx:∀c∈x,c<1114112)(hl:∀l∈ls,∀c∈l,c<1114112)(h:List L3.PO):zi (.str x) (.lst (ls.map PV.str)) h=some (decide (x∈ls)):=by show(if PB [] (.str x)=true∧(ls.map PV.str).all (PB [])=true then some ((ls.map PV.str).any fun y=>PyData.eqv (toD y) (toD (.str x)))else none)=_;rw[if_pos ⟨oT [] hx,pJ hl⟩,tE hx hl]
theorem Mc{x:List Nat}{ls:List (List Nat)}(hx:∀c∈x,c<1114112)(hl:∀l∈ls,∀c∈l,c<1114112)(h:List L3.PO):U4 (.str x) (.tup (ls.map PV.str)) h=.ok (.bl (decide (x∈ls))) h:=by unfold U4;rw[FS hx hl]
theorem JA{x:List Nat}{ls:List (List Nat)}(hx:∀c∈x,c<1114112)(hl:∀l∈ls,∀c∈l,c<1114112)(h:List L3.PO):jj (.str x) (.tup (ls.map PV.str)) h=.ok (.bl (!decide (x∈ls))) h:=by unfold jj;rw[FS hx hl]
theorem HW{x:List Nat}{ls:List (List Nat)}(hx:∀c∈x,c<1114112)(hl:∀l∈ls,∀c∈l,c<1114112)(h:List L3.PO):U4 (.str x) (.lst (ls.map PV.str)) h=.ok (.bl (decide (x∈ls))) h:=by unfold U4;rw[JR hx hl]
section
variable(ρ:Ev)(h:List PO)
theorem yh(cat:Nat→Bool)(g:Sx)(i n:Nat)(gs:Sx):DB cat g i n gs ρ h=match g ρ h with
 |.exc e h1=>match CB e with
  |some (C,p)=>if cat C=true then(match gs ((List.replicate n none).set i (some p)) h1 with
   |.rt v h2=>.rt v h2
   |_=>.bad)else .bad
  |none=>.bad
 |r=>r:=rfl
theorem iK(z:Bool)(C:Nat)(as:Ax)(hz:z=true):ir z C as ρ h=vN C (as ρ h):=by unfold ir;rw[if_pos hz]
theorem Ix(C:Nat)(v:PV):vN C (.ok [v] h)=.exc (.Qt C v) h:=rfl
theorem Iz(C:Nat)(as:Ax):rE C as ρ h=match as ρ h with
 |.ok qs h1=>if qs.length≤sizeLine then .exc (.cls C) h1 else .bad
 |.exc e h1=>.exc e h1
 |.bad=>.bad:=rfl
end
section
variable(ρ:Ev)(h:List PO)
theorem KO(i j:Int):aB (.int i) (.int j) h=.ok (.int (i+j)) h:=rfl
theorem KN(a b:List Nat):aB (.str a) (.str b) h=if a.length+b.length≤sizeLine then .ok (.str (a++b)) h else .bad:=rfl
theorem Nm(l:List (PK×PV))(r:List PO):aj (.dct l::r) (.ref 0)=.ref 0:=rfl
theorem hR{p:PV}(hp:p.pure=true):gR h p=some (p,h):=by cases p<;>first|(simp[PV.pure]at hp;done)|simp[gR,hp]
theorem nR{p:PV}(hp:p.pure=true):aj h p=p:=by cases p<;>first|(simp[PV.pure]at hp;done)|rfl
theorem Lj(v:PV)(l:List (PK×PV))(r:List PO)(x:List Nat):xm v (.ref 0) (.str x) ρ (.dct l::r)=if l.length<sizeLine then .nx ρ (.dct (kY l (.inr x) v)::r)else .bad:=rfl
theorem Nj(l:List (PK×PV))(r:List PO)(x:List Nat):b_ (.ref 0) (.str x) (.dct l::r)=match il l (.inr x)with|some v=>.ok (aj (.dct l::r) v) (.dct l::r)|none=>.bad:=rfl
end
section
variable{ρ:Ev}{h:List L3.PO}
theorem Nl(n:Nat)(gs:Wg)(ps:List PV):Sd n gs (.tup ps) ρ=if ps.length=n then gs ps ρ else none:=rfl
theorem NA:cW [] ρ=some ρ:=rfl
theorem MJ(l:List Nat)(lo hi:Option Int):lg (.str l) lo hi h=if l.length≤sizeLine then .ok (.str (cut l lo hi)) h else .bad:=rfl
theorem IU(l:List PV)(lo hi:Option Int):lg (.lst l) lo hi h=.ok (.lst (cut l lo hi)) h:=rfl
theorem Lq(i j:Int):rZ [.int i,.int j] h=.ok (.int (if j>i then j else i)) h:=rfl
end
section
variable(ρ:Ev)(h:List PO)
theorem MM(xs:List PV):cE (.tup xs) h=match cG xs with|some ls=>if ls.length+1<scanBound then .ok (.int (mY ls:Nat)) h else .bad|none=>.bad:=rfl
theorem HH(xs:List PV)(k:Int):lu (.tup xs) (.int k) h=if RM 9223372036854775808 k=true∧xs.length * k.toNat≤sizeLine then .ok (.tup (mr xs k)) h else .bad:=rfl
end
section
variable(ρ:Ev)(h:List PO)(a K xa:PV)(b:Ev)(c d e f g i j k l m n o p q r s t u v y:Option PV)(w:Nat)(x I O:Ex)(z A:Sx)(B:PV→List PO→Res PV)(C:List PV→List PO→Res PV)(D:Ax)(E:List PV→Out)(G:List PV→Res PV)(H N:PV→PV→List PO→Res PV)(J:List PV)(L:Bool)(M W:Tx)(P Q:Ox)(R:PV→Option Int→Option Int→List PO→Res PV)(S:Option Int)(T:Int)(U:List PO→PV→Bool)(V:PV→List PV→List PO→Res PV)(X:List Nat)(Y:Gx)(Z:PV→PV→PV→Ev→List PO→SR)(xb:Wg)
theorem kv0:af 0 (some a::b) h=.ok (aj h a) h:=rfl
theorem kv1:af 1 (c::some a::b) h=.ok (aj h a) h:=rfl
theorem kv2:af 2 (c::d::some a::b) h=.ok (aj h a) h:=rfl
theorem kv3:af 3 (c::d::e::some a::b) h=.ok (aj h a) h:=rfl
theorem kv4:af 4 (c::d::e::f::some a::b) h=.ok (aj h a) h:=rfl
theorem kv5:af 5 (c::d::e::f::g::some a::b) h=.ok (aj h a) h:=rfl
theorem kv6:af 6 (c::d::e::f::g::i::some a::b) h=.ok (aj h a) h:=rfl
theorem kv7:af 7 (c::d::e::f::g::i::j::some a::b) h=.ok (aj h a) h:=rfl
theorem kv8:af 8 (c::d::e::f::g::i::j::k::some a::b) h=.ok (aj h a) h:=rfl
theorem kv9:af 9 (c::d::e::f::g::i::j::k::l::some a::b) h=.ok (aj h a) h:=rfl
theorem Nq:af 10 (c::d::e::f::g::i::j::k::l::m::some a::b) h=.ok (aj h a) h:=rfl
theorem Np:af 11 (c::d::e::f::g::i::j::k::l::m::n::some a::b) h=.ok (aj h a) h:=rfl
theorem No:af 12 (c::d::e::f::g::i::j::k::l::m::n::o::some a::b) h=.ok (aj h a) h:=rfl
def Us(i:Nat)(ρ:Ev)(r:Res PV):SR:=dv r fun v h1=>.nx (ρ.set i (some v)) h1
theorem Ky:aI w x ρ h=Us w ρ (x ρ h):=rfl
theorem ks0:Us 0 (c::b) (.ok a h)=.nx (some a::b) h:=rfl
theorem ks1:Us 1 (c::d::b) (.ok a h)=.nx (c::some a::b) h:=rfl
theorem ks2:Us 2 (c::d::e::b) (.ok a h)=.nx (c::d::some a::b) h:=rfl
theorem ks3:Us 3 (c::d::e::f::b) (.ok a h)=.nx (c::d::e::some a::b) h:=rfl
theorem ks4:Us 4 (c::d::e::f::g::b) (.ok a h)=.nx (c::d::e::f::some a::b) h:=rfl
theorem ks5:Us 5 (c::d::e::f::g::i::b) (.ok a h)=.nx (c::d::e::f::g::some a::b) h:=rfl
theorem ks6:Us 6 (c::d::e::f::g::i::j::b) (.ok a h)=.nx (c::d::e::f::g::i::some a::b) h:=rfl
theorem ks7:Us 7 (c::d::e::f::g::i::j::k::b) (.ok a h)=.nx (c::d::e::f::g::i::j::some a::b) h:=rfl
theorem ks8:Us 8 (c::d::e::f::g::i::j::k::l::b) (.ok a h)=.nx (c::d::e::f::g::i::j::k::some a::b) h:=rfl
theorem ks9:Us 9 (c::d::e::f::g::i::j::k::l::m::b) (.ok a h)=.nx (c::d::e::f::g::i::j::k::l::some a::b) h:=rfl
theorem Nv:Us 10 (c::d::e::f::g::i::j::k::l::m::n::b) (.ok a h)=.nx (c::d::e::f::g::i::j::k::l::m::some a::b) h:=rfl
theorem Nu:Us 11 (c::d::e::f::g::i::j::k::l::m::n::o::b) (.ok a h)=.nx (c::d::e::f::g::i::j::k::l::m::n::some a::b) h:=rfl
theorem Nr:Us 12 (c::d::e::f::g::i::j::k::l::m::n::o::p::b) (.ok a h)=.nx (c::d::e::f::g::i::j::k::l::m::n::o::some a::b) h:=rfl
def xp(g:Sx)(r:SR):SR:=match r with
 |.nx ρ1 h1=>g ρ1 h1
 |.rt v h1=>.rt v h1
 |.bk ρ1 h1=>.bk ρ1 h1
 |.ct ρ1 h1=>.ct ρ1 h1
 |.exc v h1=>.exc v h1
 |.bad=>.bad
theorem Kz:aq z A ρ h=xp A (z ρ h):=rfl
theorem MI:xp z (.nx ρ h)=z ρ h:=rfl
theorem MH:xp z (.rt a h)=.rt a h:=rfl
theorem Li:xp z (.exc a h)=.exc a h:=rfl
def kg{α β:Type}(f:α→List PO→Res β)(r:Res α):Res β:=r.bind f
theorem MW{α β:Type}(f:α→List PO→Res β)(a:α):kg f (.ok a h)=f a h:=rfl
theorem MV:c1 B x ρ h=kg B (x ρ h):=rfl
theorem MS:cN C D ρ h=kg C (D ρ h):=rfl
theorem KD:bo E D ρ h=kg (bg E) (D ρ h):=rfl
theorem JK:aT C D ρ h=kg (bY C) (D ρ h):=rfl
theorem KG:ik x ρ h=kg jb (x ρ h):=rfl
theorem MR:cFz x ρ h=kg Zm (x ρ h):=rfl
def k2(g:PV→PV→List PO→Res PV)(b:Ex)(ρ:Ev)(r:Res PV):Res PV:=r.bind fun x h1=>kg (g x) (b ρ h1)
theorem MU:c2 H x I ρ h=k2 H I ρ (x ρ h):=rfl
theorem Nh:k2 H x ρ (.ok a h)=kg (H a) (x ρ h):=rfl
def kC2(x:PV)(r:Res (List PV)):Res (List PV):=r.bind fun xs h2=>.ok (x::xs) h2
def kC(r:Ax)(ρ:Ev)(x:Res PV):Res (List PV):=x.bind fun x h1=>kC2 x (r ρ h1)
theorem KC:ae x D ρ h=kC D ρ (x ρ h):=rfl
theorem Nf:kC D ρ (.ok a h)=kC2 a (D ρ h):=rfl
theorem LZ:kC2 a (.ok J h)=.ok (a::J) h:=rfl
def JO(g:Ex)(ρ:Ev)(r:Res PV):Res PV:=r.bind fun p h1=>match p with|.bl b=>if b=true then g ρ h1 else .ok (.bl false) h1|_=>.bad
theorem LF:Fg x I ρ h=JO I ρ (x ρ h):=rfl
theorem Mb:JO x ρ (.ok (.bl L) h)=if L=true then x ρ h else .ok (.bl false) h:=rfl
def kOr(g:Ex)(ρ:Ev)(r:Res PV):Res PV:=r.bind fun p h1=>match p with|.bl b=>if b=true then .ok (.bl true) h1 else g ρ h1|_=>.bad
theorem MQ:Uw x I ρ h=kOr I ρ (x ρ h):=rfl
theorem MZ:kOr x ρ (.ok (.bl L) h)=if L=true then .ok (.bl true) h else x ρ h:=rfl
def JN(r:Res PV):Res PV:=r.bind fun p h1=>match p with|.bl b=>.ok (.bl (!b)) h1|_=>.bad
theorem LC:CP x ρ h=JN (x ρ h):=rfl
theorem LQ:JN (.ok (.bl L) h)=.ok (.bl (!L)) h:=rfl
def kIe(f g:Ex)(ρ:Ev)(r:Res Bool):Res PV:=r.bind fun b h1=>if b=true then f ρ h1 else g ρ h1
theorem LD:wK M x I ρ h=kIe x I ρ (M ρ h):=rfl
theorem LV:kIe x I ρ (.ok L h)=if L=true then x ρ h else I ρ h:=rfl
def kL2(f:PV→Option Int→Option Int→List PO→Res PV)(hi:Ox)(ρ:Ev)(p:PV)(r:Res (Option Int)):Res PV:=r.bind fun l h2=>kg (f p l) (hi ρ h2)
def kL1(f:PV→Option Int→Option Int→List PO→Res PV)(lo hi:Ox)(ρ:Ev)(r:Res PV):Res PV:=r.bind fun p h1=>kL2 f hi ρ p (lo ρ h1)
theorem Lz:mP x P Q ρ h=kL1 lg P Q ρ (x ρ h):=rfl
theorem LS:kL1 R P Q ρ (.ok a h)=kL2 R Q ρ a (P ρ h):=rfl
theorem LR:kL2 R P ρ a (.ok S h)=kg (R a S) (P ρ h):=rfl
def kO(r:Res PV):Res (Option Int):=r.bind fun p h1=>match p with|.int i=>.ok (some i) h1|_=>.bad
theorem JJ:gF x ρ h=kO (x ρ h):=rfl
theorem Nx:kO (.ok (.int T) h)=.ok (some T) h:=rfl
def kM(recv:List PO→PV→Bool)(g:PV→List PV→List PO→Res PV)(as:Ax)(ρ:Ev)(r:Res PV):Res PV:=r.bind fun p h1=>if recv h1 p=true then kg (g p) (as ρ h1)else .bad
theorem MT:cM U V x D ρ h=kM U V D ρ (x ρ h):=rfl
theorem Na:kM U V D ρ (.ok a h)=if U h a=true then kg (V a) (D ρ h)else .bad:=rfl
def kTo(h:List PO)(o:Option Bool):Res Bool:=match o with|some b=>.ok b h|none=>.bad
def kTr(r:Res PV):Res Bool:=r.bind fun p h1=>kTo h1 (ua h1 p)
theorem Kt:kL x ρ h=kTr (x ρ h):=rfl
theorem LM:kTr (.ok a h)=kTo h (ua h a):=rfl
theorem MX:kTo h (some L)=.ok L h:=rfl
def kCm(r:Res PV):Res Bool:=r.bind fun p h1=>match p with|.bl b=>.ok b h1|_=>.bad
theorem Kv:ay x ρ h=kCm (x ρ h):=rfl
theorem Nc:kCm (.ok (.bl L) h)=.ok L h:=rfl
def kNt(r:Res Bool):Res Bool:=r.bind fun b h1=>.ok (!b) h1
theorem Ku:xg M ρ h=kNt (M ρ h):=rfl
theorem LP:kNt (.ok L h)=.ok (!L) h:=rfl
def kTa(g:Tx)(ρ:Ev)(r:Res Bool):Res Bool:=r.bind fun b h1=>if b=true then g ρ h1 else .ok false h1
theorem Kw:iU M W ρ h=kTa W ρ (M ρ h):=rfl
theorem LN:kTa M ρ (.ok L h)=if L=true then M ρ h else .ok false h:=rfl
def kTu(g:Tx)(ρ:Ev)(r:Res Bool):Res Bool:=r.bind fun b h1=>if b=true then .ok true h1 else g ρ h1
theorem Ly:iW M W ρ h=kTu W ρ (M ρ h):=rfl
theorem LL:kTu M ρ (.ok L h)=if L=true then .ok true h else M ρ h:=rfl
def kR1(ps:List PV)(h1:List PO):Res (List PV):=match ps with|[.int j]=>if RM 4611686018427387904 j=true then .ok ((List.range j.toNat).map fun i=>PV.int (0+(i:Nat))) h1 else .bad|_=>.bad
theorem Iy:dI D ρ h=kg kR1 (D ρ h):=rfl
theorem MY(j:Int):kR1 [.int j] h=if RM 4611686018427387904 j=true then .ok ((List.range j.toNat).map fun i=>PV.int (0+(i:Nat))) h else .bad:=rfl
def kCo(g8:List Nat)(tt:Tx)(te:Ex)(ρ:Ev)(r:Res (List PV)):Res (List PV):=r.bind fun xs h1=>if xs.length<sizeLine then bv tt te (bX g8 ρ) xs h1 else .bad
theorem JL:eD X D M x ρ h=kCo X M x ρ (D ρ h):=rfl
theorem LY:kCo X M x ρ (.ok J h)=if J.length<sizeLine then bv M x (bX X ρ) J h else .bad:=rfl
def kRt(r:Res PV):SR:=dv r fun v h1=>.rt v h1
theorem KA:bf x ρ h=kRt (x ρ h):=rfl
theorem LO(v:PV):kRt (.ok v h)=.rt v h:=rfl
theorem KH(v:PV):kRt (.exc v h)=.exc v h:=rfl
def kDr(ρ:Ev)(r:Res PV):SR:=dv r fun _ h1=>.nx ρ h1
theorem JI:fy x ρ h=kDr ρ (x ρ h):=rfl
theorem LX:kDr ρ (.ok a h)=.nx ρ h:=rfl
theorem KI:kDr ρ (.exc a h)=.exc a h:=rfl
def kIf(f g:Sx)(ρ:Ev)(r:Res Bool):SR:=vf r fun b h1=>if b=true then f ρ h1 else g ρ h1
theorem LA:NP M z A ρ h=kIf z A ρ (M ρ h):=rfl
theorem LU:kIf z A ρ (.ok L h)=if L=true then z ρ h else A ρ h:=rfl
def kFo(g:Gx)(body:Sx)(ρ:Ev)(r:Res (List PV)):SR:=Cf r fun xs h1=>aJ g body xs ρ h1
theorem KB:fS D Y z ρ h=kFo Y z ρ (D ρ h):=rfl
theorem LW:kFo Y z ρ (.ok J h)=aJ Y z J ρ h:=rfl
def Z9(s:PV→PV→PV→Ev→List PO→SR)(ρ:Ev)(v o:PV)(r:Res PV):SR:=dv r fun i h3=>s v o i ρ h3
def Z_(s:PV→PV→PV→Ev→List PO→SR)(fi:Ex)(ρ:Ev)(v:PV)(r:Res PV):SR:=dv r fun o h2=>Z9 s ρ v o (fi ρ h2)
def kX1(s:PV→PV→PV→Ev→List PO→SR)(fo fi:Ex)(ρ:Ev)(r:Res PV):SR:=dv r fun v h1=>Z_ s fi ρ v (fo ρ h1)
theorem JH:jc x I O ρ h=kX1 iq x I ρ (O ρ h):=rfl
theorem Kx:uh x I O ρ h=kX1 xm x I ρ (O ρ h):=rfl
theorem LK:kX1 Z x I ρ (.ok a h)=Z_ Z I ρ a (x ρ h):=rfl
theorem LJ:Z_ Z x ρ a (.ok K h)=Z9 Z ρ a K (x ρ h):=rfl
theorem LI:Z9 Z ρ a K (.ok xa h)=Z a K xa ρ h:=rfl
def kAo(h:List PO)(o:Option Ev):SR:=match o with|some ρ1=>.nx ρ1 h|none=>.bad
def kAs(g:Gx)(ρ:Ev)(r:Res PV):SR:=dv r fun v h1=>kAo h1 (g v ρ)
theorem LE:AA Y x ρ h=kAs Y ρ (x ρ h):=rfl
theorem Ma:kAs Y ρ (.ok a h)=kAo h (Y a ρ):=rfl
theorem Ng:kAo h (some ρ)=.nx ρ h:=rfl
def kG(gs:Wg)(r:List PV)(o:Option Ev):Option Ev:=match o with|some ρ1=>gs r ρ1|none=>none
theorem Nw:aO Y xb (a::J) ρ=kG xb J (Y a ρ):=rfl
theorem Ny:kG xb J (some ρ)=xb J ρ:=rfl
def Ze(h:List PO)(o:Option PV):Res PV:=match o with|some v=>.ok (aj h v) h|none=>.bad
theorem Nb:Ze h (some a)=.ok (aj h a) h:=rfl
theorem MN:b_ (.tup J) (.int T) h=Ze h (O8 J T):=rfl
theorem MO:b_ (.lst J) (.int T) h=Ze h (O8 J T):=rfl
theorem MP:b_ (.Qs J) (.int T) h=Ze h (O8 J T):=rfl
end
end L3
namespace K8
open PySem L2 L3
local macro_rules | `(tactic| simp $c:optConfig only [EV,$xs,*])=>do let a←(("Res.M4 Ka NB Ml JY KL JX Mm Mr Nn Mo Mp Mn Mq Ms KM Lh Lp MK ML Mu Nz KJ Ni BY JF Lr Ks KQ Ll Kr Nk Kp Kq KK Mk MG MF FQ FR EF szl Ko Ix Iz KO KN Nm Lj Nj Nl NA MJ IU Lq MM HH kv0 kv1 kv2 kv3 kv4 kv5 kv6 kv7 kv8 kv9 Nq Np No Ky ks0 ks1 ks2 ks3 ks4 ks5 ks6 ks7 ks8 ks9 Nv Nu Nr Kz MI MH Li MW MV MS KD JK KG MR MU Nh KC Nf LZ LF Mb MQ MZ LC LQ LD LV Lz LS LR JJ Nx MT Na Kt LM MX Kv Nc Ku LP Kw LN Ly LL Iy MY JL LY KA LO KH JI LX KI LA LU KB LW JH Kx LK LJ LI LE Ma Ng Nw Ny Nb MN MO MP".splitOn.map fun n=>`L3++n.toName)++("List.getElem?_cons_zero List.getElem?_cons_succ List.set_cons_zero List.set_cons_succ List.map_cons List.map_nil List.append_nil List.nil_append List.cons_append if_true if_false reduceIte Bool.not_true Bool.not_false Bool.true_and Bool.false_and Bool.and_true Bool.and_false Bool.true_or Bool.false_or Bool.or_true Bool.or_false Bool.not_not eq_self_iff_true true_and and_true Bool.false_eq_true reduceCtorEq List.length_cons List.length_nil List.replicate Nat.sub_self Nat.zero_add Option.isSome_some Option.isSome_none Nat.reduceAdd Nat.reduceLeDiff Int.reduceLT Int.reduceLE decide_true decide_false Int.reduceNeg Int.reducePow Nat.reducePow Int.reduceAdd Int.reduceMul Int.reduceSub Nat.reduceSub and_self Nat.reduceMul Nat.reduceEqDiff".splitOn.map fun n=>n.toName)).toArray.mapM fun n=>`(Lean.Parser.Tactic.simpLemma| $(Lean.mkIdent n):term);`(tactic| simp $c:optConfig only [$a,*,$xs,*])
structure Ou where
 a:List Nat
 f:List (List Nat)
noncomputable def QV(p:Ou):PV:=.tup (.str p.a::p.f.map PV.str)
def dR(l:List Ou):List PV:=l.map QV
noncomputable def nms(l:List (List Nat)):PV:=.tup (l.map PV.str)
mutual
inductive Nd where
 |text (s:List Nat)
 |place (p:Ou) (w:List Nat)
 |loop (n:List Nat) (p:Ou) (ns:j8) (b:List Nat)
 |choice (p:Ou) (y n:j8)
 |use (n:List Nat) (ps:List Ou)
 |j6 (n:List Nat) (ps:List Ou) (h:List (List Nat)) (b:j8)
 |body (ps:List Ou)
inductive j8 where
 |nil
 |cons (n:Nd) (r:j8)
end
abbrev tT:List Nat:=[116,101,120,116]
abbrev tP:List Nat:=[112,108,97,99,101]
abbrev tL:List Nat:=[108,111,111,112]
abbrev tC:List Nat:=[99,104,111,105,99,101]
abbrev tU:List Nat:=[117,115,101]
abbrev tB:List Nat:=[98,111,100,121]
abbrev tI:List Nat:=[112,105,101,99,101]
mutual
def nd:Nd→PV
 |.text s=>.tup [.str tT,.str s]
 |.place p w=>.tup [.str tP,QV p,.str w]
 |.loop n p ns b=>.tup [.str tL,.str n,QV p,.tup (d9 ns),.str b]
 |.choice p y n=>.tup [.str tC,QV p,.tup (d9 y),.tup (d9 n)]
 |.use n ps=>.tup [.str tU,.str n,.tup (dR ps),.non,.non]
 |.j6 n ps h b=>.tup [.str tU,.str n,.tup (dR ps),nms h,.tup (d9 b)]
 |.body ps=>.tup [.str tB,.tup (dR ps)]
def d9:j8→List PV
 |.nil=> []
 |.cons n r=>nd n::d9 r
end
structure Pc where
 n:List Nat
 ns:List (List Nat)
 m:Option Int
 b:j8
noncomputable def J3:Option Int→PV
 |none=>.non
 |some i=>.int i
def pc(q:Pc):PV:=.tup [.str tI,.str q.n,nms q.ns,J3 q.m,.tup (d9 q.b)]
def bk(l:List Pc):PV:=.tup (l.map pc)
noncomputable def out(ns:List (List Nat))(p:Ou):Bool:=!ns.contains p.a
noncomputable def look(E:List Pc)(n:List Nat):Option Pc:=E.find? fun q=>q.n==n
def dup(l:List (List Nat)):Bool:=decide (mY l<l.length)
def Tc(ps:List Ou)(q:Pc):Option (List (List Nat))→Bool
 |none=>ps.length !=q.ns.length||q.m.isSome
 |some l=>ps.length !=q.ns.length||match q.m with
  |none=>true
  |some m=>(l.length:Int) !=m||dup l
def Qn(E:List Pc)(m:Option Int)(ns:List (List Nat)):Nd→Bool
 |.text _=>false
 |.place p _=>out ns p
 |.loop _ p _ _=>out ns p
 |.choice p _ _=>out ns p
 |.use n ps=>ps.any (out ns)||match look E n with
  |none=>true
  |some q=>Tc ps q none
 |.j6 n ps h _=>ps.any (out ns)||match look E n with
  |none=>true
  |some q=>Tc ps q (some h)
 |.body ps=>ps.any (out ns)||match m with
  |none=>true
  |some i=>(ps.length:Int) !=i
mutual
def Sg(E:List Pc)(m:Option Int)(w:List Int)(ns:List (List Nat)):Nd→Option (List Int)
 |.loop n _ b _=>QJ E m w 0 (ns++ [n]) b
 |.choice _ y n=>(QJ E m (w++ [0]) 0 ns y).or (QJ E m (w++ [1]) 0 ns n)
 |.j6 _ _ h b=>QJ E m w 0 (ns++h) b
 |_=>none
def QJ(E:List Pc)(m:Option Int)(w:List Int)(k:Nat)(ns:List (List Nat)):j8→Option (List Int)
 |.nil=>none
 |.cons n r=>if Qn E m ns n=true then some (w++ [(k:Int)])else(Sg E m (w++ [(k:Int)]) ns n).or (QJ E m w (k+1) ns r)
end
def Tf(len:Nat):List Pc→List Pc→Option (List Int)
 |_,[]=>none
 |E,q::r=>if((E.map (·.n)).contains q.n||dup q.ns||(decide (E.length+1=len)&&q.m.isSome))=true then some [(E.length:Int)]else(QJ E q.m [(E.length:Int)] 0 q.ns q.b).or (Tf len (E++ [q]) r)
theorem dD{g:Gx}{b:Sx}{p:PV}{r:List PV}{ρ ρ1 ρ2:Ev}{h h2:List PO}(hg:g p ρ=some ρ1)(hb:b ρ1 h=.nx ρ2 h2):aJ g b (p::r) ρ h=aJ g b r ρ2 h2:=by simp only[aJ,hg,hb]
theorem Qu{α:Type}(a:α)(l:List α):O8 (a::l) 0=some a:=dj (by decide) rfl
theorem at1{α:Type}(a b:α)(l:List α):O8 (a::b::l) 1=some b:=dj (by decide) rfl
theorem at2{α:Type}(a b c:α)(l:List α):O8 (a::b::c::l) 2=some c:=dj (by decide) rfl
theorem VH{α:Type}(a b c d:α)(l:List α):O8 (a::b::c::d::l) 3=some d:=dj (by decide) rfl
theorem Zv{α:Type}(a b c d e:α)(l:List α):O8 (a::b::c::d::e::l) 4=some e:=dj (by decide) rfl
theorem N6{a b:List Nat}(c:Bool)(e:(match M8 (.str a) (.str b) []with|.ok (.bl d) _=>d==c|_=>false)=true:=by kernel_rfl)(h:List PO):M8 (.str a) (.str b) h=.ok (.bl c) h:=by
 unfold M8 at e ⊢
 split at e
 ·rename_i d h' z
  split at z
  ·rename_i ok
   cases z
   have:PB h (.str a)=true∧PB h (.str b)=true:=ok;rw[if_pos this];have q:=eq_of_beq e;rw[show Qm h (.str a)=Qm [] (.str a)from rfl,show Qm h (.str b)=Qm [] (.str b)from rfl,q]
  ·cases z
 ·cases e
theorem eI:∀l:List (List Nat),ah (l.map PV.str)=true
 |[]=>rfl
 |a::r=>by rw[List.map_cons,ah,eI r];rfl
theorem jg(p:Ou):(QV p).pure=true:=by unfold QV;rw[PV.pure,ah,eI];rfl
theorem aL:∀l:List Ou,ah (dR l)=true
 |[]=>rfl
 |a::r=>by show ah (QV a::dR r)=true;rw[ah,jg,aL r];rfl
theorem bh(l:List (List Nat)):(nms l).pure=true:=by unfold nms;rw[PV.pure];exact eI l
mutual
theorem bH:∀n:Nd,(nd n).pure=true
 |.text s=>by simp[nd,PV.pure,ah]
 |.place p w=>by simp[nd,PV.pure,ah,jg]
 |.loop n p ns b=>by simp[nd,PV.pure,ah,jg,aV ns]
 |.choice p y n=>by simp[nd,PV.pure,ah,jg,aV y,aV n]
 |.use n ps=>by simp[nd,PV.pure,ah,aL]
 |.j6 n ps h b=>by simp[nd,PV.pure,ah,aL,bh,aV b]
 |.body ps=>by simp[nd,PV.pure,ah,aL]
theorem aV:∀n:j8,ah (d9 n)=true
 |.nil=>by simp[d9,ah]
 |.cons n r=>by simp[d9,ah,bH n,aV r]
end
theorem bz{p:PV}{h:List L3.PO}(hp:p.pure=true):di p h=.ok p:=by unfold di;rw[hR h hp]
theorem gT(h:List PO)(p:Ou):aj h (QV p)=QV p:=rfl
theorem mM(h:List PO)(p:List (List Nat)):aj h (nms p)=nms p:=rfl
noncomputable def pa:Nd→List Ou
 |.text _=> []
 |.place p _=> [p]
 |.loop _ p _ _=> [p]
 |.choice p _ _=> [p]
 |.use _ ps=>ps
 |.j6 _ ps _ _=>ps
 |.body ps=>ps
theorem Bv(k:Nat)(n:Nd):F (k+1) .NT [nd n]=.ok (.tup (dR (pa n))):=by
 show bp (bU (F k)) 1 1 [nd n]=_
 cases n with
 |text s=>simp only[EV,nd,bp,bU,gT,Qu,at1,at2,N6 (a:=tT) (b:=tT) true,pa];exact bz (by rw[PV.pure];first|exact aL _|exact aL []|exact aL [_])
 |place p w=>simp only[EV,nd,bp,bU,gT,Qu,at1,at2,N6 (a:=tP) (b:=tT) false,N6 (a:=tP) (b:=tL) false,N6 (a:=tP) (b:=tU) false,N6 (a:=tP) (b:=tB) false,pa];exact bz (by rw[PV.pure];first|exact aL _|exact aL []|exact aL [_])
 |loop n p ns b=>simp only[EV,nd,bp,bU,gT,Qu,at1,at2,N6 (a:=tL) (b:=tT) false,N6 (a:=tL) (b:=tL) true,pa];exact bz (by rw[PV.pure];first|exact aL _|exact aL []|exact aL [_])
 |choice p y n=>simp only[EV,nd,bp,bU,gT,Qu,at1,at2,N6 (a:=tC) (b:=tT) false,N6 (a:=tC) (b:=tL) false,N6 (a:=tC) (b:=tU) false,N6 (a:=tC) (b:=tB) false,pa];exact bz (by rw[PV.pure];first|exact aL _|exact aL []|exact aL [_])
 |use n ps=>simp only[EV,nd,bp,bU,gT,Qu,at1,at2,N6 (a:=tU) (b:=tT) false,N6 (a:=tU) (b:=tL) false,N6 (a:=tU) (b:=tU) true,pa];exact bz (by rw[PV.pure];first|exact aL _|exact aL []|exact aL [_])
 |j6 n ps h b=>simp only[EV,nd,bp,bU,gT,Qu,at1,at2,N6 (a:=tU) (b:=tT) false,N6 (a:=tU) (b:=tL) false,N6 (a:=tU) (b:=tU) true,pa];exact bz (by rw[PV.pure];first|exact aL _|exact aL []|exact aL [_])
 |body ps=>simp only[EV,nd,bp,bU,gT,Qu,at1,at2,N6 (a:=tB) (b:=tT) false,N6 (a:=tB) (b:=tL) false,N6 (a:=tB) (b:=tU) false,N6 (a:=tB) (b:=tB) true,pa];exact bz (by rw[PV.pure];first|exact aL _|exact aL []|exact aL [_])
def Py(w:List Int)(ns:List (List Nat))(b:j8):PV:=.tup [.tup (w.map PV.int),nms ns,.tup (d9 b)]
noncomputable def prs:Nd→List (List Int×List (List Nat)×j8)
 |.loop n _ b _=> [([],[n],b)]
 |.choice _ y n=> [([0],[],y),([1],[],n)]
 |.j6 _ _ h b=> [([],h,b)]
 |_=> []
theorem Ba(w:List Int)(ns:List (List Nat))(b:j8):(Py w ns b).pure=true:=by
 have:∀w:List Int,ah (w.map PV.int)=true:=fun w=>by induction w with
  |nil=>rfl
  |cons a r ih=>rw[List.map_cons,ah,ih];rfl
 unfold Py;simp[PV.pure,ah,this,bh,aV]
theorem ji(k:Nat)(n:Nd):F (k+1) .i_ [nd n]=.ok (.lst ((prs n).map fun x=>Py x.1 x.2.1 x.2.2)):=by
 show bp (bj (F k)) 1 1 [nd n]=_
 have fin:∀(l:List (List Int×List (List Nat)×j8)),di (.lst (l.map fun x=>Py x.1 x.2.1 x.2.2)) []=.ok (.lst (l.map fun x=>Py x.1 x.2.1 x.2.2)):=fun l=>bz (by
  rw[PV.pure]
  induction l with
  |nil=>rfl
  |cons a r ih=>rw[List.map_cons,ah,Ba,ih];rfl)
 have nn:∀(x:List PV) h,fN (.tup x) .non h=.ok (.bl true) h:=fun _ _=>rfl;have n0:∀h,fN .non .non h=.ok (.bl false) h:=fun _=>rfl
 cases n with
 |text s=>simp only[EV,nd,bp,bj,Qu,N6 (a:=tT) (b:=tL) false,N6 (a:=tT) (b:=tC) false,N6 (a:=tT) (b:=tU) false];exact fin []
 |place p w=>simp only[EV,nd,bp,bj,Qu,N6 (a:=tP) (b:=tL) false,N6 (a:=tP) (b:=tC) false,N6 (a:=tP) (b:=tU) false];exact fin []
 |body ps=>simp only[EV,nd,bp,bj,Qu,N6 (a:=tB) (b:=tL) false,N6 (a:=tB) (b:=tC) false,N6 (a:=tB) (b:=tU) false];exact fin []
 |use m ps=>simp only[EV,nd,bp,bj,Qu,Zv,n0,N6 (a:=tU) (b:=tL) false,N6 (a:=tU) (b:=tC) false,N6 (a:=tU) (b:=tU) true];exact fin []
 |loop m p ns b=>simp only[EV,nd,bp,bj,Qu,at1,VH,N6 (a:=tL) (b:=tL) true];exact fin [([],[m],ns)]
 |choice p y m=>simp only[EV,nd,bp,bj,Qu,at2,VH,N6 (a:=tC) (b:=tL) false,N6 (a:=tC) (b:=tC) true];exact fin [([0],[],y),([1],[],m)]
 |j6 m ps hh b=>simp only[EV,nd,bp,bj,Qu,VH,Zv,nn,mM,N6 (a:=tU) (b:=tL) false,N6 (a:=tU) (b:=tC) false,N6 (a:=tU) (b:=tU) true];exact fin [([],hh,b)]
noncomputable def sg(l:List Nat):Bool:=l.all fun c=>decide (c<1114112)
theorem jV{l:List Nat}(h:sg l=true):∀c∈l,c<1114112:=fun c hc=>of_decide_eq_true (List.all_eq_true.mp h c hc)
def Oq(l:List (List Nat)):Bool:=l.all sg
theorem GF{l:List (List Nat)}(h:Oq l=true):∀x∈l,∀c∈x,c<1114112:=fun x hx=>jV (List.all_eq_true.mp h x hx)
theorem gA:∀l:List (List Nat),cG (l.map PV.str)=some l
 |[]=>rfl
 |a::r=>by rw[List.map_cons,cG,gA r];rfl
theorem tW(k:Nat)(l:List (List Nat))(hl:l.length<60):F (k+1) .G9 [nms l]=.ok (.bl (dup l)):=by
 show bp (gL (F k)) 1 1 [nms l]=_;have q:l.length+1<scanBound:=Nat.lt_of_lt_of_le (Nat.succ_lt_succ hl) (by decide);have e:decide (((mY l:Nat):Int)<((l.length:Nat):Int))=dup l:=by unfold dup;simp
 simp only[EV,nms,bp,gL,gA,q,List.length_map,e,di]
theorem pY:jr .non=true:=rfl
theorem pW(i:Int):jr (.int i)=false:=rfl
theorem sG(l:List PV):jr (.tup l)=false:=rfl
theorem yf:∀{l:List PV}(h:List PO),ah l=true→N8 l h=some (l,h)
 |[],_,_=>rfl
 |p::r,h,e=>by rw[ah,ab1]at e;rw[N8,hR h e.1];dsimp only;rw[yf h e.2]
theorem aN{fn:List PV→Out}{ps:List PV}{v:PV}(h:List PO)(hp:ah ps=true)(e:fn ps=.ok v):bg fn ps h=.ok v h:=by rw[zQ,yf h hp];dsimp only;rw[e]
theorem Dr(k:Nat)(n:List Nat)(ps:List Ou)(q:Pc):F (k+1) .o7 [nd (.use n ps),pc q]=.ok (.bl (Tc ps q none)):=by
 show bp (aY (F k)) 2 2 [nd (.use n ps),pc q]=_
 by_cases e:ps.length=q.ns.length
 ·have e1:decide (((ps.length:Nat):Int)=((q.ns.length:Nat):Int))=true:=decide_eq_true (by omega);have e2:(ps.length !=q.ns.length)=false:=by simp[e]
  cases hm:q.m with
  |none=>simp only[EV,nd,pc,dR,nms,J3,hm,bp,aY,at2,VH,gN,pY,pW,sG,List.length_map,e1,e2,Tc,Option.isSome_none,di]
  |some i=>simp only[EV,nd,pc,dR,nms,J3,hm,bp,aY,at2,VH,gN,pY,pW,sG,List.length_map,e1,e2,Tc,Option.isSome_some,di]
 ·have e1:decide (((ps.length:Nat):Int)=((q.ns.length:Nat):Int))=false:=decide_eq_false (by omega);have e2:(ps.length !=q.ns.length)=true:=by simp[e]
  simp only[EV,nd,pc,dR,nms,bp,aY,at2,gN,pY,pW,sG,List.length_map,e1,e2,Tc,di]
theorem Ah(k:Nat)(n:List Nat)(ps:List Ou)(hs:List (List Nat))(b:j8)(q:Pc)(hl:hs.length<60):F (k+2) .o7 [nd (.j6 n ps hs b),pc q]=.ok (.bl (Tc ps q (some hs))):=by
 show bp (aY (F (k+1))) 2 2 [nd (.j6 n ps hs b),pc q]=_
 by_cases e:ps.length=q.ns.length
 ·have e1:decide (((ps.length:Nat):Int)=((q.ns.length:Nat):Int))=true:=decide_eq_true (by omega);have e2:(ps.length !=q.ns.length)=false:=by simp[e]
  cases hm:q.m with
  |none=>simp only[EV,nd,pc,dR,nms,J3,hm,bp,aY,at2,VH,gN,pY,pW,sG,List.length_map,e1,e2,Tc,di]
  |some i=>
   have tw:=tW k hs hl
   by_cases e3:(hs.length:Int)=i
   ·have d3:decide (((hs.length:Nat):Int)=i)=true:=decide_eq_true e3;have b3:(((hs.length:Nat):Int) !=i)=false:=by simp[e3]
    have cw:∀h,bg (F (k+1) .G9) [.tup (hs.map PV.str)] h=.ok (.bl (dup hs)) h:=fun h=>aN h (by rw[ah,PV.pure,eI];rfl) tw;simp only[EV,nd,pc,dR,nms,J3,hm,bp,aY,at2,VH,gN,pY,pW,sG,List.length_map,e1,e2,d3,b3,cw,Tc,di]
   ·have d3:decide (((hs.length:Nat):Int)=i)=false:=decide_eq_false e3;have b3:(((hs.length:Nat):Int) !=i)=true:=by simp[e3]
    simp only[EV,nd,pc,dR,nms,J3,hm,bp,aY,at2,VH,gN,pY,pW,sG,List.length_map,e1,e2,d3,b3,Tc,di]
 ·have e1:decide (((ps.length:Nat):Int)=((q.ns.length:Nat):Int))=false:=decide_eq_false (by omega);have e2:(ps.length !=q.ns.length)=true:=by simp[e]
  simp only[EV,nd,pc,dR,nms,bp,aY,at2,gN,pY,pW,sG,List.length_map,e1,e2,Tc,di]
def G6(E:List Pc):List (PK×PV):=E.map fun q=>(.inr q.n,pc q)
theorem kK(n:List Nat):∀E:List Pc,il (G6 E) (.inr n)=(look E n).map pc
 |[]=>rfl
 |q::r=>by
  have e:G6 (q::r)=(.inr q.n,pc q)::G6 r:=rfl;rw[e]
  by_cases h:q.n=n
  ·subst h;simp[il,look]
  ·have i:=kK n r;unfold look at i ⊢;rw[List.find?_cons_of_neg (by simpa using h),← i];simp[il,h]
theorem sI(n:List Nat)(E:List Pc)(r:List PO):jj (.str n) (.ref 0) (.dct (G6 E)::r)=.ok (.bl (!(look E n).isSome)) (.dct (G6 E)::r):=by show(match some (il (G6 E) (.inr n)).isSome with|some b=>Res.ok (PV.bl (!b)) (.dct (G6 E)::r)|none=>Res.bad)=_;rw[kK,Option.isSome_map]
theorem fU(q:Pc):(pc q).pure=true:=by
 unfold pc
 cases h:q.m<;>simp[PV.pure,ah,bh,aV,J3]
theorem Ck(n:List Nat)(E:List Pc)(r:List PO){q:Pc}(e:look E n=some q):b_ (.ref 0) (.str n) (.dct (G6 E)::r)=.ok (pc q) (.dct (G6 E)::r):=by show(match il (G6 E) (.inr n)with|some v=>Res.ok (aj (.dct (G6 E)::r) v) (.dct (G6 E)::r)|none=>Res.bad)=_;rw[kK,e];rfl
theorem jk(h:List PO)(m:Option Int):aj h (J3 m)=J3 m:=by cases m<;>rfl
theorem gI(h:List PO)(n:Nd):aj h (nd n)=nd n:=nR (h:=h) (bH n)
theorem Hb(p:Ou)(h:List PO):b_ (QV p) (.int 0) h=.ok (.str p.a) h:=by show(match O8 (PV.str p.a::p.f.map PV.str) 0 with|some v=>Res.ok (aj h v) h|none=>Res.bad)=_;rw[Qu];rfl
def WQ(l:List Ou):Bool:=l.all fun p=>sg p.a
theorem qp(C:CC)(ns:List (List Nat))(hn:Oq ns=true)(a m:PV)(h:List PO):∀(ps:List Ou),WQ ps=true→∀x4,(ps.any (out ns)=true∧aJ (G5 4) (bF C) (dR ps) [some a,some (nms ns),some m,some (.ref 0),x4] h=.rt (.bl true) h)∨
  (ps.any (out ns)=false∧∃y4,aJ (G5 4) (bF C) (dR ps) [some a,some (nms ns),some m,some (.ref 0),x4] h=.nx [some a,some (nms ns),some m,some (.ref 0),y4] h)
 |[],_,x4=>.inr ⟨rfl,x4,rfl⟩
 |p::r,hp,x4=>by
  simp only[WQ,List.all_cons,ab1]at hp
  have ni:jj (.str p.a) (nms ns) h=.ok (.bl (out ns p)) h:=by unfold nms;rw[JA (jV hp.1) (GF hn)];unfold out;simp
  have e:dR (p::r)=QV p::dR r:=rfl
  have b:bF C [some a,some (nms ns),some m,some (.ref 0),some (QV p)] h=if out ns p=true then .rt (.bl true) h else .nx [some a,some (nms ns),some m,some (.ref 0),some (QV p)] h:=by simp only[EV,bF,gT,mM,Hb,ni]
  rw[e]
  cases o:out ns p with
  |true=>
   left
   refine⟨by simp[o],?_⟩;rw[o,if_pos rfl]at b;rw[aJ];show(match bF C [some a,some (nms ns),some m,some (.ref 0),some (QV p)] h with|.nx ρ2 h2=>_|.ct ρ2 h2=>_|.bk ρ2 h2=>_|.rt v h2=>_|.exc v h2=>_|.bad=>_)=_;rw[b]
  |false=>
   rw[o,if_neg (by decide)]at b
   have st:aJ (G5 4) (bF C) (QV p::dR r) [some a,some (nms ns),some m,some (.ref 0),x4] h=aJ (G5 4) (bF C) (dR r) [some a,some (nms ns),some m,some (.ref 0),some (QV p)] h:=by rw[aJ];show(match bF C [some a,some (nms ns),some m,some (.ref 0),some (QV p)] h with|.nx ρ2 h2=>_|.ct ρ2 h2=>_|.bk ρ2 h2=>_|.rt v h2=>_|.exc v h2=>_|.bad=>_)=_;rw[b]
   rw[st,List.any_cons,o,Bool.false_or];exact qp C ns hn a m h r hp.2 _
def wp(p:Ou):Bool:=sg p.a&&(Oq p.f&&decide (p.f.length≤10))
def wps(l:List Ou):Bool:=l.all wp&&decide (l.length<60)
mutual
def wN:Nd→Bool
 |.text s=>sg s
 |.place p w=>wp p&&sg w
 |.loop n p b t=>sg n&&(wp p&&(wS b&&sg t))
 |.choice p y n=>wp p&&(wS y&&wS n)
 |.use n ps=>sg n&&wps ps
 |.j6 n ps h b=>sg n&&(wps ps&&(Oq h&&(decide (h.length<60)&&wS b)))
 |.body ps=>wps ps
def wS:j8→Bool
 |.nil=>true
 |.cons n r=>wN n&&wS r
end
theorem vm{l:List Ou}(h:wps l=true):WQ l=true:=by
 unfold wps at h;rw[ab1]at h
 exact List.all_eq_true.mpr fun p hp=>by have:=List.all_eq_true.mp h.1 p hp;unfold wp at this;rw[ab1]at this;exact this.1
theorem Jv{n:Nd}(h:wN n=true):WQ (pa n)=true:=by
 cases n with
 |text s=>rfl
 |place p w=>rw[wN,wp,ab1,ab1]at h;simp[pa,WQ,h.1.1]
 |loop n p b t=>rw[wN,wp,ab1,ab1,ab1]at h;simp[pa,WQ,h.2.1.1]
 |choice p y n=>rw[wN,wp,ab1,ab1]at h;simp[pa,WQ,h.1.1]
 |use n ps=>rw[wN,ab1]at h;exact vm h.2
 |j6 n ps hh b=>rw[wN,ab1,ab1]at h;exact vm h.2.1
 |body ps=>rw[wN]at h;exact vm h
theorem zZ(k:Nat)(E:List Pc)(m:Option Int)(ns:List (List Nat))(hn:Oq ns=true)(n:Nd)(hw:wN n=true):L (k+3) .K_ [nd n,nms ns,J3 m,.ref 0] [.dct (G6 E)]=.ok (.bl (Qn E m ns n)) [.dct (G6 E)]:=by
 show eC (bt (F (k+2))) 4 5 [nd n,nms ns,J3 m,.ref 0] [.dct (G6 E)]=_;have cp:∀h,bg (F (k+2) .NT) [nd n] h=.ok (.tup (dR (pa n))) h:=fun h=>aN h (by rw[ah,bH];rfl) (Bv (k+1) n)
 have fin:∀b:Bool,dq 1 (.bl b) [.dct (G6 E)]=.ok (.bl b) [.dct (G6 E)]:=fun b=>by
  have ep:dL (G6 E)=true:=by
   rw[eJ];unfold G6;rw[List.map_map]
   induction E with
   |nil=>rfl
   |cons q r ih=>rw[List.map_cons,ah,ih];simp[fU]
  unfold dq fQ;simp[gR,PV.pure,bC,PO.pure,ep]
 have run:bt (F (k+2)) [some (nd n),some (nms ns),some (J3 m),some (.ref 0),none] [.dct (G6 E)]=.rt (.bl (Qn E m ns n)) [.dct (G6 E)]:=by
  rcases qp (F (k+2)) ns hn (nd n) (J3 m) [.dct (G6 E)] (pa n) (Jv hw) none with⟨a1,a2⟩|⟨a1,y4,a2⟩
  ·have:Qn E m ns n=true:=by cases n<;>simp only[pa,List.any_cons,List.any_nil,Bool.or_false]at a1<;>simp[Qn,a1]
   rw[this];simp only[EV,bt,gI,cp,a2]
  ·cases n with
   |text s=>simp only[EV,bt,gI,cp,a2,Qn];simp only[EV,nd,Qu,N6 (a:=tT) (b:=tU) false,N6 (a:=tT) (b:=tB) false]
   |place p w=>simp only[pa,List.any_cons,List.any_nil,Bool.or_false]at a1;simp only[EV,bt,gI,cp,a2,Qn,a1];simp only[EV,nd,Qu,N6 (a:=tP) (b:=tU) false,N6 (a:=tP) (b:=tB) false]
   |loop x p b t=>simp only[pa,List.any_cons,List.any_nil,Bool.or_false]at a1;simp only[EV,bt,gI,cp,a2,Qn,a1];simp only[EV,nd,Qu,N6 (a:=tL) (b:=tU) false,N6 (a:=tL) (b:=tB) false]
   |choice p y z=>simp only[pa,List.any_cons,List.any_nil,Bool.or_false]at a1;simp only[EV,bt,gI,cp,a2,Qn,a1];simp only[EV,nd,Qu,N6 (a:=tC) (b:=tU) false,N6 (a:=tC) (b:=tB) false]
   |body ps=>
    simp only[pa]at a1;simp only[EV,bt,gI,cp,a2,Qn,a1]
    cases m with
    |none=>simp only[EV,nd,J3,Qu,pY,N6 (a:=tB) (b:=tU) false,N6 (a:=tB) (b:=tB) true]
    |some i=>
     simp only[EV,nd,J3,Qu,at1,pW,gN,dR,List.length_map,N6 (a:=tB) (b:=tU) false,N6 (a:=tB) (b:=tB) true]
     by_cases e:(ps.length:Int)=i<;>simp[e]
   |use x ps=>
    simp only[pa]at a1;simp only[EV,bt,gI,cp,a2,Qn,a1]
    cases l:look E x with
    |none=>simp only[EV,nd,Qu,at1,sI,l,N6 (a:=tU) (b:=tU) true]
    |some q=>
     have cw:∀h,bg (F (k+2) .o7) [nd (.use x ps),pc q] h=.ok (.bl (Tc ps q none)) h:=fun h=>aN h (by rw[ah,ah,bH,fU];rfl) (Dr (k+1) x ps q);have i1:b_ (nd (.use x ps)) (.int 1) [.dct (G6 E)]=.ok (.str x) [.dct (G6 E)]:=by rw[nd];rfl
     have i0:b_ (nd (.use x ps)) (.int 0) [.dct (G6 E)]=.ok (.str tU) [.dct (G6 E)]:=by rw[nd];rfl
     simp only[EV,i0,i1,gI,sI,Ck x E [] l,l,cw,N6 (a:=tU) (b:=tU) true]
   |j6 x ps hh b=>
    simp only[pa]at a1;rw[wN,ab1,ab1,ab1,ab1]at hw;simp only[EV,bt,gI,cp,a2,Qn,a1]
    cases l:look E x with
    |none=>simp only[EV,nd,Qu,at1,sI,l,N6 (a:=tU) (b:=tU) true]
    |some q=>
     have cw:∀h,bg (F (k+2) .o7) [nd (.j6 x ps hh b),pc q] h=.ok (.bl (Tc ps q (some hh))) h:=fun h=>aN h (by rw[ah,ah,bH,fU];rfl) (Ah k x ps hh b q (of_decide_eq_true hw.2.2.2.1));have i1:b_ (nd (.j6 x ps hh b)) (.int 1) [.dct (G6 E)]=.ok (.str x) [.dct (G6 E)]:=by rw[nd];rfl
     have i0:b_ (nd (.j6 x ps hh b)) (.int 0) [.dct (G6 E)]=.ok (.str tU) [.dct (G6 E)]:=by rw[nd];rfl
     simp only[EV,i0,i1,gI,sI,Ck x E [] l,l,cw,N6 (a:=tU) (b:=tU) true]
 have r2:∀p1 p2 p3 p4:PV,eC (bt (F (k+2))) 4 5 [p1,p2,p3,p4] [.dct (G6 E)]=match bt (F (k+2)) [some p1,some p2,some p3,some p4,none] [.dct (G6 E)]with|.nx _ h1=>fQ 1 .non h1|.rt v h1=>dq 1 v h1|_=>.bad:=fun _ _ _ _=>rfl
 rw[r2,run];exact fin _
mutual
def dN:Nd→Nat
 |.loop _ _ b _=>dS b+1
 |.choice _ y n=>max (dS y) (dS n)+1
 |.j6 _ _ _ b=>dS b+1
 |_=>0
def dS:j8→Nat
 |.nil=>0
 |.cons n r=>max (dN n) (dS r)
end
theorem xS:∀(l:List PV),ah l=true→S_ (l++ [.ref 0])=[0]∧Ti 0 (l++ [.ref 0])=l++ [.ref 0]∧gP (l++ [.ref 0])=true
 |[],_=>⟨rfl,rfl,rfl⟩
 |p::r,h=>by
  rw[ah,ab1]at h;obtain⟨i1,i2,i3⟩:=xS r h.2;have np:∀i,p≠.ref i:=fun i e=>by have:=h.1;subst e;simp[PV.pure]at this
  have q3:gP (p::(r++ [.ref 0]))=(p.pure&&gP (r++ [.ref 0])):=by cases p<;>first|rfl|exact(np _ rfl).elim
  refine⟨?_,?_,?_⟩
  ·rw[List.cons_append];cases p<;>first|exact i1|exact(np _ rfl).elim
  ·rw[List.cons_append];cases p<;>first|exact congrArg _ i2|exact(np _ rfl).elim
  ·rw[List.cons_append,q3,h.1,i3];rfl
theorem bT{fn:List PV→List PO→Res PV}(l:List PV){o:PO}(hl:ah l=true)(ho:o.pure=true):
  (∀v,v.pure=true→fn (l++ [.ref 0]) [o]=.ok v [o]→bY fn (l++ [.ref 0]) [o]=.ok v [o])∧(∀v,v.pure=true→fn (l++ [.ref 0]) [o]=.exc v [o]→bY fn (l++ [.ref 0]) [o]=.exc v [o]):=by
 obtain⟨q1,q2,q3⟩:=xS l hl;have q4:fO [o] [0]=some [o]:=rfl;have q5:(gP (l++ [.ref 0])&&bC [o]&&gO [0])=true:=by rw[q3];simp[bC,ho,gO]
 refine⟨fun v hv e=>?_,fun v hv e=>?_⟩<;>
 ·unfold bY;rw[q1,q4];dsimp only;rw[if_pos q5,q2,e];dsimp only;rw[if_pos ⟨hv,by simp[bC,ho],rfl⟩];rfl
noncomputable def wy(w:List Int):PV:=.tup (w.map PV.int)
theorem df(w:List Int):(wy w).pure=true:=by
 unfold wy;rw[PV.pure]
 induction w with
 |nil=>rfl
 |cons a r ih=>rw[List.map_cons,ah,ih];rfl
theorem lK(E:List Pc):(PO.dct (G6 E)).pure=true:=by
 show dL (G6 E)=true;rw[eJ];unfold G6;rw[List.map_map]
 induction E with
 |nil=>rfl
 |cons q r ih=>rw[List.map_cons,ah,ih];simp[fU]
def ub(E:List Pc):Option (List Int)→Res PV
 |none=>.ok .non [.dct (G6 E)]
 |some w=>.exc (.Qt 6 (wy w)) [.dct (G6 E)]
theorem iT(a b:List PV)(h:List PO)(q:a.length+b.length≤sizeLine):aB (.tup a) (.tup b) h=.ok (.tup (a++b)) h:=by
 cases a with
 |nil=>rfl
 |cons x r=>show(if(x::r).isEmpty=false∧(x::r).length+b.length≤sizeLine then Res.ok (PV.tup (x::r++b)) h else .bad)=_;rw[if_pos ⟨rfl,q⟩]
theorem Dd(w:List Int)(x:List Int)(h:List PO)(hl:w.length+x.length≤10000):aB (wy w) (wy x) h=.ok (wy (w++x)) h:=by unfold wy;rw[List.map_append];exact iT _ _ h (by rw[List.length_map,List.length_map];exact Nat.le_trans hl (by decide))
theorem lT(w:List (List Nat))(x:List (List Nat))(h:List PO)(hl:w.length+x.length≤100000):aB (nms w) (nms x) h=.ok (nms (w++x)) h:=by unfold nms;rw[List.map_append];exact iT _ _ h (by rw[List.length_map,List.length_map];exact Nat.le_trans hl (by decide))
theorem kR{a b:List (List Nat)}(ha:Oq a=true)(hb:Oq b=true):Oq (a++b)=true:=by unfold Oq at*;rw[List.all_append,ha,hb];rfl
def pZ(E:List Pc)(ρ:Ev):Option (List Int)→SR
 |none=>.nx ρ [.dct (G6 E)]
 |some w=>.exc (.Qt 6 (wy w)) [.dct (G6 E)]
theorem Bw(k:Nat)(E:List Pc)(m:Option Int)(a c:PV)(i:PV)(w x:List Int)(ns ys:List (List Nat))(b:j8)(n:Nd)(r:Option (List Int))(hw:w.length+x.length≤10000)(hn:ns.length+ys.length≤100000)
  (e:X_ k .d8 [.tup (d9 b),wy (w++x),nms (ns++ys),J3 m,.ref 0] [.dct (G6 E)]=ub E r):
  bA (F k) (X_ k) [some a,some c,some (nms ns),some (J3 m),some (.ref 0),some i,some (nd n),some (wy w),some (Py x ys b)] [.dct (G6 E)]=pZ E [some a,some c,some (nms ns),some (J3 m),some (.ref 0),some i,some (nd n),some (wy w),some (Py x ys b)] r:=by
 have p0:∀h,b_ (Py x ys b) (.int 0) h=.ok (wy x) h:=fun h=>rfl;have p1:∀h,b_ (Py x ys b) (.int 1) h=.ok (nms ys) h:=fun h=>rfl;have p2:∀h,b_ (Py x ys b) (.int 2) h=.ok (.tup (d9 b)) h:=fun h=>rfl;have dp:∀h,aj h (Py x ys b)=Py x ys b:=fun h=>rfl;have dw:∀h,aj h (wy w)=wy w:=fun h=>rfl;have mp:(J3 m).pure=true:=by cases m<;>rfl
 obtain⟨c1,c2⟩:=bT (fn:=X_ k .d8) [.tup (d9 b),wy (w++x),nms (ns++ys),J3 m] (o:=.dct (G6 E)) (by simp[ah,PV.pure,aV b,df,bh,mp]) (lK E)
 cases r with
 |none=>have cc:=c1 .non rfl e;simp only[List.cons_append,List.nil_append]at cc;simp only[EV,bA,p0,p1,p2,dp,dw,mM,jk,Dd w x _ hw,lT ns ys _ hn,cc,pZ]
 |some v=>have cc:=c2 (.Qt 6 (wy v)) (by rw[PV.pure];exact df v) e;simp only[List.cons_append,List.nil_append]at cc;simp only[EV,bA,p0,p1,p2,dp,dw,mM,jk,Dd w x _ hw,lT ns ys _ hn,cc,pZ,Res.Qh]
def kT:Nd→List Nat
 |.text _=>tT
 |.place _ _=>tP
 |.loop _ _ _ _=>tL
 |.choice _ _ _=>tC
 |.use _ _=>tU
 |.j6 _ _ _ _=>tU
 |.body _=>tB
theorem kt1(s:List Nat):kT (.text s)=tT:=rfl
theorem kt2(p:Ou)(s:List Nat):kT (.place p s)=tP:=rfl
theorem kt3(x:List Nat)(p:Ou)(b:j8)(t:List Nat):kT (.loop x p b t)=tL:=rfl
theorem kt4(p:Ou)(y z:j8):kT (.choice p y z)=tC:=rfl
theorem kt5(x:List Nat)(ps:List Ou):kT (.use x ps)=tU:=rfl
theorem kt6(x:List Nat)(ps:List Ou)(h:List (List Nat))(b:j8):kT (.j6 x ps h b)=tU:=rfl
theorem kt7(ps:List Ou):kT (.body ps)=tB:=rfl
abbrev qE(a b:List Nat)(c:Bool)(h:List PO):Prop:=M8 (.str a) (.str b) h=.ok (.bl c) h
section
variable(h:List PO)
theorem tgs:qE tT tT true h∧qE tT tP false h∧qE tT tL false h∧qE tT tC false h∧qE tT tU false h∧qE tT tB false h∧qE tP tT false h∧qE tP tP true h∧qE tP tL false h∧qE tP tC false h∧qE tP tU false h∧qE tP tB false h∧qE tL tT false h∧qE tL tP false h∧qE tL tL true h∧qE tL tC false h∧qE tL tU false h∧qE tL tB false h∧qE tC tT false h∧qE tC tP false h∧qE tC tL false h∧qE tC tC true h∧qE tC tU false h∧qE tC tB false h∧qE tU tT false h∧qE tU tP false h∧qE tU tL false h∧qE tU tC false h∧qE tU tU true h∧qE tU tB false h∧qE tB tT false h∧qE tB tP false h∧qE tB tL false h∧qE tB tC false h∧qE tB tU false h∧qE tB tB true h:=by
 repeat' apply And.intro
 all_goals exact N6 _ (h:=h)
theorem JC(n:Nd):b_ (nd n) (.int 0) h=.ok (.str (kT n)) h:=by cases n<;>(rw[nd];rfl)
theorem FM(p:Ou)(w:List Nat):b_ (nd (.place p w)) (.int 1) h=.ok (QV p) h∧b_ (nd (.place p w)) (.int 2) h=.ok (.str w) h:=by rw[nd];exact⟨rfl,rfl⟩
theorem FN(x:List Nat)(p:Ou)(b:j8)(t:List Nat):b_ (nd (.loop x p b t)) (.int 1) h=.ok (.str x) h∧b_ (nd (.loop x p b t)) (.int 2) h=.ok (QV p) h∧b_ (nd (.loop x p b t)) (.int 3) h=.ok (.tup (d9 b)) h∧b_ (nd (.loop x p b t)) (.int 4) h=.ok (.str t) h:=by rw[nd];exact⟨rfl,rfl,rfl,rfl⟩
theorem FO(p:Ou)(y z:j8):b_ (nd (.choice p y z)) (.int 1) h=.ok (QV p) h∧b_ (nd (.choice p y z)) (.int 2) h=.ok (.tup (d9 y)) h∧b_ (nd (.choice p y z)) (.int 3) h=.ok (.tup (d9 z)) h:=by rw[nd];exact⟨rfl,rfl,rfl⟩
theorem FK(x:List Nat)(ps:List Ou):b_ (nd (.use x ps)) (.int 1) h=.ok (.str x) h∧b_ (nd (.use x ps)) (.int 2) h=.ok (.tup (dR ps)) h∧b_ (nd (.use x ps)) (.int 3) h=.ok .non h∧b_ (nd (.use x ps)) (.int 4) h=.ok .non h:=by rw[nd];exact⟨rfl,rfl,rfl,rfl⟩
theorem FJ(x:List Nat)(ps:List Ou)(hs:List (List Nat))(b:j8):b_ (nd (.j6 x ps hs b)) (.int 1) h=.ok (.str x) h∧b_ (nd (.j6 x ps hs b)) (.int 2) h=.ok (.tup (dR ps)) h∧b_ (nd (.j6 x ps hs b)) (.int 3) h=.ok (nms hs) h∧b_ (nd (.j6 x ps hs b)) (.int 4) h=.ok (.tup (d9 b)) h:=by rw[nd];exact⟨rfl,rfl,rfl,rfl⟩
variable(q:Pc)
theorem Js:b_ (pc q) (.int 1) h=.ok (.str q.n) h∧b_ (pc q) (.int 2) h=.ok (nms q.ns) h∧b_ (pc q) (.int 3) h=.ok (J3 q.m) h∧b_ (pc q) (.int 4) h=.ok (.tup (d9 q.b)) h:=by refine⟨rfl,rfl,?_,rfl⟩;show Res.ok (aj h (J3 q.m)) h=_;rw[jk]
theorem FC:aj h (pc q)=pc q:=rfl
theorem Ga(B:List Pc):aj h (bk B)=bk B:=rfl
theorem Fp(w:List Int):aj h (wy w)=wy w:=rfl
theorem CT(B:List Pc):cV [bk B] h=.ok (.int B.length) h:=by unfold bk;rw[BY,List.length_map]
theorem xO(l:List (List Nat)):cV [nms l] h=.ok (.int l.length) h:=by unfold nms;rw[BY,List.length_map]
end
theorem BS(m:Option Int):jr (J3 m)=!m.isSome:=by cases m<;>rfl
abbrev qM(n:Int):Prop:=decide (0<n)=true
abbrev qD(n:Int):Prop:=decide (0<n∧n<1073741824)=true
theorem mls(x:Int):hJ 3 x=true∧hJ 5 x=true∧hJ 7 x=true∧hJ 12 x=true∧hJ 31 x=true∧hJ 7919 x=true∧hJ x 48271=true:=by refine⟨?_,?_,?_,?_,?_,?_,sw (by decide)⟩<;>exact HI (by decide)
local macro_rules | `(tactic| simp $c:optConfig only [EX,$xs,*])=>do let a←(("gI mM Ga FC Fp gT jk Js Qu at1 at2 VH Zv pY pW sG BA gN JC kt1 kt2 kt3 kt4 kt5 kt6 kt7 tgs FM FN FO FK FJ CT xO BS mls".splitOn.map fun n=>n.toName)).toArray.mapM fun n=>`(Lean.Parser.Tactic.simpLemma| $(Lean.mkIdent n):term);`(tactic| simp $c:optConfig only [EV,$a,*,$xs,*])
theorem oR(k:Nat)(E:List Pc)(m:Option Int)(a c i:PV)(w:List Int)(ns:List (List Nat))(n:Nd)(f:List Int×List (List Nat)×j8→Option (List Int)):
  ∀(l:List (List Int×List (List Nat)×j8))(x8:Option PV),(∀x∈l,w.length+x.1.length≤10000∧ns.length+x.2.1.length≤100000∧X_ k .d8 [.tup (d9 x.2.2),wy (w++x.1),nms (ns++x.2.1),J3 m,.ref 0] [.dct (G6 E)]=ub E (f x))→
  ∃y8,aJ (G5 8) (bA (F k) (X_ k)) (l.map fun x=>Py x.1 x.2.1 x.2.2) [some a,some c,some (nms ns),some (J3 m),some (.ref 0),some i,some (nd n),some (wy w),x8] [.dct (G6 E)]=
   pZ E [some a,some c,some (nms ns),some (J3 m),some (.ref 0),some i,some (nd n),some (wy w),y8] (l.findSome? f)
 |[],x8,_=>⟨x8,rfl⟩
 |x::r,x8,hx=>by
  obtain⟨h1,h2,h3⟩:=hx x List.mem_cons_self;have one:=Bw k E m a c i w x.1 ns x.2.1 x.2.2 n (f x) h1 h2 h3;obtain⟨y8,ih⟩:=oR k E m a c i w ns n f r (some (Py x.1 x.2.1 x.2.2)) fun z hz=>hx z (List.mem_cons_of_mem _ hz);rw[List.map_cons,aJ]
  cases e:f x with
  |none=>rw[e]at one;refine⟨y8,?_⟩;rw[List.findSome?_cons_of_isNone (by rw[e];rfl)];show(match bA (F k) (X_ k) [some a,some c,some (nms ns),some (J3 m),some (.ref 0),some i,some (nd n),some (wy w),some (Py x.1 x.2.1 x.2.2)] [.dct (G6 E)]with|.nx ρ2 h2=>_|.ct ρ2 h2=>_|.bk ρ2 h2=>_|.rt v h2=>_|.exc v h2=>_|.bad=>_)=_;rw[one];exact ih
  |some v=>rw[e]at one;refine⟨x8,?_⟩;rw[List.findSome?_cons_of_isSome (by rw[e];rfl),e];show(match bA (F k) (X_ k) [some a,some c,some (nms ns),some (J3 m),some (.ref 0),some i,some (nd n),some (wy w),some (Py x.1 x.2.1 x.2.2)] [.dct (G6 E)]with|.nx ρ2 h2=>_|.ct ρ2 h2=>_|.bk ρ2 h2=>_|.rt v h2=>_|.exc v h2=>_|.bad=>_)=_;rw[one];rfl
theorem EO(E:List Pc)(m:Option Int)(w:List Int)(ns:List (List Nat))(n:Nd):Sg E m w ns n=(prs n).findSome? fun x=>QJ E m (w++x.1) 0 (ns++x.2.1) x.2.2:=by
 cases n with
 |choice p y z=>
  rw[Sg,prs,List.findSome?_cons,List.findSome?_cons,List.findSome?_nil];dsimp only;rw[List.append_nil]
  cases QJ E m (w++ [0]) 0 ns y with
  |some v=>rfl
  |none=>cases QJ E m (w++ [1]) 0 ns z<;>rfl
 |loop x p b t=>rw[Sg,prs,List.findSome?_cons,List.findSome?_nil];dsimp only;rw[List.append_nil];cases QJ E m w 0 (ns++ [x]) b<;>rfl
 |j6 x p h b=>rw[Sg,prs,List.findSome?_cons,List.findSome?_nil];dsimp only;rw[List.append_nil];cases QJ E m w 0 (ns++h) b<;>rfl
 |text s=>rfl
 |place p s=>rfl
 |use x p=>rfl
 |body p=>rfl
theorem BN(k:Nat)(E:List Pc)(m:Option Int)(a:PV)(w:List Int)(ns:List (List Nat))(i:Nat)(n:Nd)(x7 x8:Option PV)(hn:Oq ns=true)(hw:wN n=true)(lw:w.length+10≤10000)
  (hx:∀x∈prs n,(w++ [(i:Int)]).length+x.1.length≤10000∧ns.length+x.2.1.length≤100000∧X_ (k+3) .d8 [.tup (d9 x.2.2),wy (w++ [(i:Int)]++x.1),nms (ns++x.2.1),J3 m,.ref 0] [.dct (G6 E)]=ub E (QJ E m (w++ [(i:Int)]++x.1) 0 (ns++x.2.1) x.2.2)):
  ∃y7 y8,ba (F (k+3)) (L (k+3)) (X_ (k+3)) (Nat.ble 2 (k+3)) [some a,some (wy w),some (nms ns),some (J3 m),some (.ref 0),some (.int i),some (nd n),x7,x8] [.dct (G6 E)]=
   pZ E [some a,some (wy w),some (nms ns),some (J3 m),some (.ref 0),some (.int i),some (nd n),y7,y8] (if Qn E m ns n=true then some (w++ [(i:Int)])else Sg E m (w++ [(i:Int)]) ns n):=by
 have ad:aB (wy w) (.tup [.int i]) [.dct (G6 E)]=.ok (wy (w++ [(i:Int)])) [.dct (G6 E)]:=Dd w [(i:Int)] _ (by simp;omega);have mp:(J3 m).pure=true:=by cases m<;>rfl
 have cw:bY (L (k+3) .K_) [nd n,nms ns,J3 m,.ref 0] [.dct (G6 E)]=.ok (.bl (Qn E m ns n)) [.dct (G6 E)]:=
  (bT (fn:=L (k+3) .K_) [nd n,nms ns,J3 m] (o:=.dct (G6 E)) (by simp[ah,bH,bh,mp]) (lK E)).1 _ rfl (zZ k E m ns hn n hw)
 have cp:∀h,bg (F (k+3) .i_) [nd n] h=.ok (.lst ((prs n).map fun x=>Py x.1 x.2.1 x.2.2)) h:=fun h=>aN h (by rw[ah,bH];rfl) (ji (k+2) n);have hz:Nat.ble 2 (k+3)=true:=by simp[Nat.ble]
 cases e:Qn E m ns n with
 |true=>rw[e]at cw;refine⟨some (wy (w++ [(i:Int)])),x8,?_⟩;simp only[EX,ba,ad,cw,iK _ _ _ _ _ hz,pZ]
 |false=>rw[e]at cw;obtain⟨y8,lp⟩:=oR (k+3) E m a (wy w) (.int i) (w++ [(i:Int)]) ns n (fun x=>QJ E m (w++ [(i:Int)]++x.1) 0 (ns++x.2.1) x.2.2) (prs n) x8 hx;rw[← EO]at lp;refine⟨some (wy (w++ [(i:Int)])),y8,?_⟩;simp only[EX,ba,ad,cw,cp,lp]
theorem Gi{n:Nd}(hw:wN n=true):∀x∈prs n,wS x.2.2=true∧Oq x.2.1=true∧dS x.2.2<dN n∧x.1.length≤1∧x.2.1.length≤60:=by
 intro x hx
 cases n with
 |loop y p b t=>
  rw[wN,ab1,ab1,ab1]at hw
  cases List.mem_singleton.mp hx
  exact⟨hw.2.2.1,by simp[Oq,hw.1],by rw[dN];exact Nat.lt_succ_self _,Nat.zero_le _,by simp⟩
 |choice p y z=>
  rw[wN,ab1,ab1]at hw;rcases List.mem_cons.mp hx with e|e
  ·subst e;exact⟨hw.2.1,rfl,by rw[dN];exact Nat.lt_succ_of_le (Nat.le_max_left _ _),ab2 _,Nat.zero_le _⟩
  ·cases List.mem_singleton.mp e
   exact⟨hw.2.2,rfl,by rw[dN];exact Nat.lt_succ_of_le (Nat.le_max_right _ _),ab2 _,Nat.zero_le _⟩
 |j6 y p h b=>
  rw[wN,ab1,ab1,ab1,ab1]at hw
  cases List.mem_singleton.mp hx
  exact⟨hw.2.2.2.2,hw.2.2.1,by rw[dN];exact Nat.lt_succ_self _,Nat.zero_le _,Nat.le_of_lt (of_decide_eq_true hw.2.2.2.1)⟩
 |text s=>cases hx
 |place p s=>cases hx
 |use y p=>cases hx
 |body p=>cases hx
def yE(d:Nat):Prop:=∀(b:j8)(E:List Pc)(m:Option Int)(w:List Int)(ns:List (List Nat))(k:Nat),dS b≤d→wS b=true→Oq ns=true→dS b+4≤k→w.length+2 * dS b+10≤10000→ns.length+60 * dS b+60≤100000→
 X_ k .d8 [.tup (d9 b),wy w,nms ns,J3 m,.ref 0] [.dct (G6 E)]=ub E (QJ E m w 0 ns b)
theorem oV(d k:Nat)(ok:∀d',d'<d→yE d')(E:List Pc)(m:Option Int)(a:PV)(w:List Int)(ns:List (List Nat))(hn:Oq ns=true)(hk:d+4≤k+4)(lw:w.length+2 * d+10≤10000)(ln:ns.length+60 * d+60≤100000):
  ∀(b:j8)(j:Nat)(x5 x6 x7 x8:Option PV),dS b≤d→wS b=true→∃y5 y6 y7 y8,
   aJ aaI (ba (F (k+3)) (L (k+3)) (X_ (k+3)) (Nat.ble 2 (k+3))) (Rh j (d9 b)) [some a,some (wy w),some (nms ns),some (J3 m),some (.ref 0),x5,x6,x7,x8] [.dct (G6 E)]=
    pZ E [some a,some (wy w),some (nms ns),some (J3 m),some (.ref 0),y5,y6,y7,y8] (QJ E m w j ns b)
 |.nil,j,x5,x6,x7,x8,_,_=>⟨x5,x6,x7,x8,by rw[d9,Rh,aJ,QJ];rfl⟩
 |.cons n r,j,x5,x6,x7,x8,hd,hw=>by
  rw[dS]at hd;rw[wS,ab1]at hw;have dn:dN n≤d:=Nat.le_trans (Nat.le_max_left _ _) hd;have dr:dS r≤d:=Nat.le_trans (Nat.le_max_right _ _) hd
  obtain⟨y7,y8,one⟩:=BN k E m a w ns j n x7 x8 hn hw.1 (by omega) fun x hx=>by
   obtain⟨h1,h2,h3,h4,h5⟩:=Gi hw.1 x hx;have l1:(w++ [(j:Int)]).length=w.length+1:=by simp
   refine⟨by omega,by omega,ok (dS x.2.2) (by omega) x.2.2 E m _ _ (k+3) (ab2 _) h1 (kR hn h2) (by omega) ?_ ?_⟩
   ·rw[List.length_append,l1];omega
   ·rw[List.length_append];omega
  have st:∀(R:SR),ba (F (k+3)) (L (k+3)) (X_ (k+3)) (Nat.ble 2 (k+3)) [some a,some (wy w),some (nms ns),some (J3 m),some (.ref 0),some (.int j),some (nd n),x7,x8] [.dct (G6 E)]=R→
    aJ aaI (ba (F (k+3)) (L (k+3)) (X_ (k+3)) (Nat.ble 2 (k+3))) (Rh j (nd n::d9 r)) [some a,some (wy w),some (nms ns),some (J3 m),some (.ref 0),x5,x6,x7,x8] [.dct (G6 E)]=
    match R with
    |.nx ρ2 h2=>aJ aaI (ba (F (k+3)) (L (k+3)) (X_ (k+3)) (Nat.ble 2 (k+3))) (Rh (j+1) (d9 r)) ρ2 h2
    |.ct ρ2 h2=>aJ aaI (ba (F (k+3)) (L (k+3)) (X_ (k+3)) (Nat.ble 2 (k+3))) (Rh (j+1) (d9 r)) ρ2 h2
    |.bk ρ2 h2=>.nx ρ2 h2
    |.rt v h2=>.rt v h2
    |.exc v h2=>.exc v h2
    |.bad=>.bad:=fun R e=>by subst e;rfl
  rw[d9,st _ one,QJ]
  cases e:Qn E m ns n with
  |true=>exact⟨x5,x6,x7,x8,rfl⟩
  |false=>
   rw[if_neg (by decide),if_neg (by decide)]
   cases e2:Sg E m (w++ [(j:Int)]) ns n with
   |some v=>exact⟨x5,x6,x7,x8,rfl⟩
   |none=>exact oV d k ok E m a w ns hn hk lw ln r (j+1) (some (.int j)) (some (nd n)) y7 y8 dr hw.2
theorem BM:∀d,yE d:=by
 intro d
 induction d using Nat.strongRecOn with
 |ind d ih=>
  intro b E m w ns k hd hw hn hk lw ln;obtain⟨k',rfl⟩:∃k',k=k'+4:=⟨k - 4,by omega⟩
  have lp:=oV (dS b) k' (fun d' h=>ih d' (by omega)) E m (.tup (d9 b)) w ns hn hk lw ln b 0 none none none none (ab2 _) hw;obtain⟨y5,y6,y7,y8,lp⟩:=lp;show mZ (cr (F (k'+3)) (L (k'+3)) (X_ (k'+3)) (Nat.ble 2 (k'+3))) 5 9 [.tup (d9 b),wy w,nms ns,J3 m,.ref 0] [.dct (G6 E)]=_;have ru:cr (F (k'+3)) (L (k'+3)) (X_ (k'+3)) (Nat.ble 2 (k'+3)) [some (.tup (d9 b)),some (wy w),some (nms ns),some (J3 m),some (.ref 0),none,none,none,none] [.dct (G6 E)]=pZ E [some (.tup (d9 b)),some (wy w),some (nms ns),some (J3 m),some (.ref 0),y5,y6,y7,y8] (QJ E m w 0 ns b):=lp
  have r2:mZ (cr (F (k'+3)) (L (k'+3)) (X_ (k'+3)) (Nat.ble 2 (k'+3))) 5 9 [.tup (d9 b),wy w,nms ns,J3 m,.ref 0] [.dct (G6 E)]=match cr (F (k'+3)) (L (k'+3)) (X_ (k'+3)) (Nat.ble 2 (k'+3)) [some (.tup (d9 b)),some (wy w),some (nms ns),some (J3 m),some (.ref 0),none,none,none,none] [.dct (G6 E)]with
   |.nx _ h1=>fQ 1 .non h1
   |.rt v h1=>dq 1 v h1
   |.exc e h1=>sS 1 e h1
   |_=>.bad:=rfl
  have ep:=lK E;rw[r2,ru]
  cases QJ E m w 0 ns b with
  |none=>simp[pZ,ub,fQ,bC,ep]
  |some v=>
   have:(PV.Qt 6 (wy v)).pure=true:=by rw[PV.pure];exact df v
   simp[pZ,ub,sS,bC,ep,this]
theorem ur(q:Pc)(E:List Pc)(h:(E.map (·.n)).contains q.n=false):kY (G6 E) (.inr q.n) (pc q)=G6 (E++ [q]):=by
 have a:((G6 E).any fun kv=>decide (kv.1=.inr q.n))=false:=by
  rw[List.any_eq_false];intro kv hk;obtain⟨p,hp,rfl⟩:=List.mem_map.mp hk;intro z;have e:p.n=q.n:=Sum.inr.inj (of_decide_eq_true z);have:(E.map (·.n)).contains q.n=true:=by rw[List.contains_iff_mem,← e];exact List.mem_map.mpr ⟨p,hp,rfl⟩
  rw[h]at this;cases this
 unfold kY;rw[a,if_neg (by decide)];unfold G6;rw[List.map_append];rfl
theorem jn(E:List Pc)(n:List Nat):(look E n).isSome=(E.map (·.n)).contains n:=by
 unfold look
 induction E with
 |nil=>rfl
 |cons q r ih=>
  rw[List.map_cons,List.contains_cons,List.find?_cons]
  cases e:q.n==n with
  |true=>have:q.n=n:=eq_of_beq e;subst this;simp
  |false=>
   have:(n==q.n)=false:=by rw[beq_eq_false_iff_ne];intro z;subst z;simp at e
   rw[this,Bool.false_or];exact ih
theorem iI(n:List Nat)(E:List Pc)(r:List PO):U4 (.str n) (.ref 0) (.dct (G6 E)::r)=.ok (.bl ((E.map (·.n)).contains n)) (.dct (G6 E)::r):=by show(match some (il (G6 E) (.inr n)).isSome with|some b=>Res.ok (PV.bl b) (.dct (G6 E)::r)|none=>Res.bad)=_;rw[kK,Option.isSome_map,jn]
def wC(q:Pc):Bool:=sg q.n&&(Oq q.ns&&(decide (q.ns.length<60)&&(wS q.b&&decide (dS q.b≤20))))
def EZ(ρ:Ev)(E:List Pc):Option (List Int)→SR
 |none=>.nx ρ [.dct (G6 E)]
 |some w=>.exc (.Qt 6 (wy w)) [.dct (G6 E)]
theorem zd(k:Nat)(B:List Pc)(E:List Pc)(q:Pc)(hw:wC q=true)(hk:44≤k)(lE:E.length≤1000)(x4:Option PV):
  ∃y4,(if((E.map (·.n)).contains q.n||dup q.ns||(decide (E.length+1=B.length)&&q.m.isSome))=true then
   aE (F k) (X_ k) (Nat.ble 2 k) [some (bk B),some (.ref 0),some (.int E.length),some (pc q),x4] [.dct (G6 E)]=.exc (.Qt 6 (wy [(E.length:Int)])) [.dct (G6 E)]
  else match QJ E q.m [(E.length:Int)] 0 q.ns q.b with
   |some w=>aE (F k) (X_ k) (Nat.ble 2 k) [some (bk B),some (.ref 0),some (.int E.length),some (pc q),x4] [.dct (G6 E)]=.exc (.Qt 6 (wy w)) [.dct (G6 E)]
   |none=>aE (F k) (X_ k) (Nat.ble 2 k) [some (bk B),some (.ref 0),some (.int E.length),some (pc q),x4] [.dct (G6 E)]=.nx [some (bk B),some (.ref 0),some (.int E.length),some (pc q),y4] [.dct (G6 (E++ [q]))]):=by
 simp only[wC,ab1,decide_eq_true_eq]at hw;obtain⟨w1,w2,w3,w4,w5⟩:=hw
 have p3:∀h,b_ (pc q) (.int 3) h=.ok (J3 q.m) h:=fun h=>by show Res.ok (aj h (J3 q.m)) h=_;rw[jk]
 have el:decide ((E.length:Int)=(B.length:Int) - 1)=decide (E.length+1=B.length):=by
  by_cases e:E.length+1=B.length
  ·rw[decide_eq_true e];exact decide_eq_true (by omega)
  ·rw[decide_eq_false e];exact decide_eq_false (by omega)
 obtain⟨k',rfl⟩:∃k',k=k'+1:=⟨k - 1,by omega⟩
 have tw:∀h,bg (F (k'+1) .G9) [nms q.ns] h=.ok (.bl (dup q.ns)) h:=fun h=>aN h (by rw[ah,bh];rfl) (tW k' q.ns w3);have hz:Nat.ble 2 (k'+1)=true:=by simp[Nat.ble];omega
 have mp:(J3 q.m).pure=true:=by cases q.m<;>rfl
 have nk:=BM (dS q.b) q.b E q.m [(E.length:Int)] q.ns (k'+1) (ab2 _) w4 w2 (by omega) (by simp;omega) (by omega);obtain⟨c1,c2⟩:=bT (fn:=X_ (k'+1) .d8) [.tup (d9 q.b),wy [(E.length:Int)],nms q.ns,J3 q.m] (o:=.dct (G6 E)) (by simp[ah,PV.pure,aV q.b,df,bh,mp]) (lK E);have sz:(G6 E).length<16777216:=by unfold G6;rw[List.length_map];omega
 cases h1:(E.map (·.n)).contains q.n with
 |true=>refine⟨x4,?_⟩;rw[if_pos (by simp)];simp only[EX,aE,el,iI,h1,iK _ _ _ _ _ hz];rfl
 |false=>
  cases h2:dup q.ns with
  |true=>refine⟨x4,?_⟩;rw[if_pos (by simp)];simp only[EX,aE,el,iI,h1,tw,h2,iK _ _ _ _ _ hz];rfl
  |false=>
   have go:aE (F (k'+1)) (X_ (k'+1)) (Nat.ble 2 (k'+1)) [some (bk B),some (.ref 0),some (.int E.length),some (pc q),x4] [.dct (G6 E)]=
     if(decide (E.length+1=B.length)&&q.m.isSome)=true then .exc (.Qt 6 (wy [(E.length:Int)])) [.dct (G6 E)]else
     match QJ E q.m [(E.length:Int)] 0 q.ns q.b with
     |some w=>.exc (.Qt 6 (wy w)) [.dct (G6 E)]
     |none=>.nx [some (bk B),some (.ref 0),some (.int E.length),some (pc q),some (.bl (decide (E.length+1=B.length)))] [.dct (G6 (E++ [q]))]:=by
    cases h3:decide (E.length+1=B.length)&&q.m.isSome with
    |true=>rw[ab1]at h3;rw[if_pos rfl];simp only[EX,aE,p3,el,iI,h1,tw,h2,h3.1,h3.2,iK _ _ _ _ _ hz];rfl
    |false=>
     rw[if_neg (by decide)]
     cases e:QJ E q.m [(E.length:Int)] 0 q.ns q.b with
     |some w=>
      rw[e]at nk;have cc:=c2 (.Qt 6 (wy w)) (by rw[PV.pure];exact df w) nk;simp only[List.cons_append,List.nil_append]at cc;have YB:bY (X_ (k'+1) .d8) [.tup (d9 q.b),.tup [.int E.length],nms q.ns,J3 q.m,.ref 0] [.dct (G6 E)]=.exc (.Qt 6 (wy w)) [.dct (G6 E)]:=cc
      cases d:decide (E.length+1=B.length)with
      |false=>simp only[EX,aE,p3,el,iI,h1,tw,h2,d,YB,Res.Qh]
      |true=>rw[d,Bool.true_and]at h3;simp only[EX,aE,p3,el,iI,h1,tw,h2,d,h3,YB,Res.Qh]
     |none=>
      rw[e]at nk;have cc:=c1 .non rfl nk;simp only[List.cons_append,List.nil_append]at cc;have YB:bY (X_ (k'+1) .d8) [.tup (d9 q.b),.tup [.int E.length],nms q.ns,J3 q.m,.ref 0] [.dct (G6 E)]=.ok .non [.dct (G6 E)]:=cc
      cases d:decide (E.length+1=B.length)with
      |false=>simp only[EX,aE,p3,el,iI,h1,tw,h2,d,YB,sz,ur q E h1]
      |true=>rw[d,Bool.true_and]at h3;simp only[EX,aE,p3,el,iI,h1,tw,h2,d,h3,YB,sz,ur q E h1]
   refine⟨some (.bl (decide (E.length+1=B.length))),?_⟩;rw[Bool.false_or,Bool.false_or,go]
   split
   ·rfl
   ·cases QJ E q.m [(E.length:Int)] 0 q.ns q.b<;>rfl
theorem oW(k:Nat)(B:List Pc)(hk:44≤k)(lB:B.length≤1000):∀(r E:List Pc)(x2 x3 x4:Option PV),E.length+r.length=B.length→(∀q∈r,wC q=true)→∃y2 y3 y4 E',
  aJ aak (aE (F k) (X_ k) (Nat.ble 2 k)) (Rh E.length (r.map pc)) [some (bk B),some (.ref 0),x2,x3,x4] [.dct (G6 E)]=EZ [some (bk B),some (.ref 0),y2,y3,y4] E' (Tf B.length E r)
 |[],E,x2,x3,x4,_,_=>⟨x2,x3,x4,E,by rw[List.map_nil,Rh,aJ,Tf];rfl⟩
 |q::r,E,x2,x3,x4,hl,hw=>by
  rw[List.length_cons]at hl;obtain⟨y4,one⟩:=zd k B E q (hw q List.mem_cons_self) hk (by omega) x4
  have st:∀(R:SR),aE (F k) (X_ k) (Nat.ble 2 k) [some (bk B),some (.ref 0),some (.int E.length),some (pc q),x4] [.dct (G6 E)]=R→
    aJ aak (aE (F k) (X_ k) (Nat.ble 2 k)) (Rh E.length (pc q::r.map pc)) [some (bk B),some (.ref 0),x2,x3,x4] [.dct (G6 E)]=
    match R with
    |.nx ρ2 h2=>aJ aak (aE (F k) (X_ k) (Nat.ble 2 k)) (Rh (E.length+1) (r.map pc)) ρ2 h2
    |.ct ρ2 h2=>aJ aak (aE (F k) (X_ k) (Nat.ble 2 k)) (Rh (E.length+1) (r.map pc)) ρ2 h2
    |.bk ρ2 h2=>.nx ρ2 h2
    |.rt v h2=>.rt v h2
    |.exc v h2=>.exc v h2
    |.bad=>.bad:=fun R e=>by subst e;rfl
  rw[List.map_cons,Tf]
  split at one
  ·rename_i c;rw[st _ one,if_pos c];exact⟨x2,x3,x4,E,rfl⟩
  ·rename_i c;rw[if_neg c]
   split at one
   ·rename_i w e;rw[st _ one,e];exact⟨x2,x3,x4,E,rfl⟩
   ·rename_i e;rw[st _ one,e];have l1:(E++ [q]).length=E.length+1:=by simp
    have ih:=oW k B hk lB r (E++ [q]) (some (.int E.length)) (some (pc q)) y4 (by rw[l1];omega) fun z hz=>hw z (List.mem_cons_of_mem _ hz);rw[l1]at ih;exact ih
theorem BQ(k:Nat)(B:List Pc)(hk:44≤k)(lB:B.length≤1000)(hw:∀q∈B,wC q=true):X_ (k+1) .j7 [bk B] []=match Tf B.length [] B with|none=>.ok .non []|some w=>.exc (.Qt 6 (wy w)) []:=by
 obtain⟨y2,y3,y4,E',lp⟩:=oW k B hk lB B [] none none none (by simp) hw;show mZ (cA (F k) (X_ k) (Nat.ble 2 k)) 1 5 [bk B] []=_;have ru:cA (F k) (X_ k) (Nat.ble 2 k) [some (bk B),none,none,none,none] []=EZ [some (bk B),some (.ref 0),y2,y3,y4] E' (Tf B.length [] B):=lp
 have r2:mZ (cA (F k) (X_ k) (Nat.ble 2 k)) 1 5 [bk B] []=match cA (F k) (X_ k) (Nat.ble 2 k) [some (bk B),none,none,none,none] []with
   |.nx _ h1=>fQ 0 .non h1
   |.rt v h1=>dq 0 v h1
   |.exc e h1=>sS 0 e h1
   |_=>.bad:=rfl
 rw[r2,ru]
 cases Tf B.length [] B with
 |none=>simp[EZ,fQ,bC]
 |some v=>
  have:(PV.Qt 6 (wy v)).pure=true:=by rw[PV.pure];exact df v
  simp[EZ,sS,bC,this]
abbrev VL:=List Int×Nd×List (List Nat)
mutual
def Rc(w:List Int)(ns:List (List Nat)):Nd→List VL
 |.loop n _ b _=>spS w 0 (ns++ [n]) b
 |.choice _ y n=>spS (w++ [0]) 0 ns y++spS (w++ [1]) 0 ns n
 |.j6 _ _ h b=>spS w 0 (ns++h) b
 |_=> []
def spS(w:List Int)(k:Nat)(ns:List (List Nat)):j8→List VL
 |.nil=> []
 |.cons n r=>(w++ [(k:Int)],n,ns)::(Rc (w++ [(k:Int)]) ns n++spS w (k+1) ns r)
end
mutual
def Ph:Nd→Nat
 |.loop _ _ b _=>J5 b
 |.choice _ y n=>J5 y+J5 n
 |.j6 _ _ _ b=>J5 b
 |_=>0
def J5:j8→Nat
 |.nil=>0
 |.cons n r=>Ph n+1+J5 r
end
mutual
theorem rn(w:List Int)(ns:List (List Nat)):∀n:Nd,(Rc w ns n).length=Ph n
 |.loop n _ b _=>by rw[Rc,Ph];exact dA _ _ _ b
 |.choice _ y n=>by rw[Rc,Ph,List.length_append,dA _ _ _ y,dA _ _ _ n]
 |.j6 _ _ h b=>by rw[Rc,Ph];exact dA _ _ _ b
 |.text _=>rfl
 |.place _ _=>rfl
 |.use _ _=>rfl
 |.body _=>rfl
theorem dA(w:List Int)(k:Nat)(ns:List (List Nat)):∀b:j8,(spS w k ns b).length=J5 b
 |.nil=>rfl
 |.cons n r=>by rw[spS,J5,List.length_cons,List.length_append,rn _ _ n,dA _ _ _ r];omega
end
def Oa(x:VL):PV:=.tup [wy x.1,nd x.2.1,nms x.2.2]
theorem Ar(x:VL):(Oa x).pure=true:=by unfold Oa;simp[PV.pure,ah,df,bH,bh]
theorem rj:∀l:List VL,ah (l.map Oa)=true
 |[]=>rfl
 |x::r=>by rw[List.map_cons,ah,Ar,rj r];rfl
section
variable{h:List PO}{i:Nat}{acc:List PV}
theorem Fa(e:h[i]? =some (.lst acc)):aj h (.ref i)=.ref i:=by show(match h[i]? with|some (.J7 q)=>q|_=>PV.ref i)=_;rw[e]
theorem JQ(e:h[i]? =some (.lst acc)):ei h (.ref i)=true:=by unfold ei;simp[Tp,Tw,e]
theorem CZ(e:h[i]? =some (.lst acc))(x:PV)(hl:acc.length<16000000):bK (.ref i) [x] h=.ok .non (h.set i (.lst (acc++ [x]))):=by
 have e2:mT h (.ref i)=some (i,acc):=by unfold mT;simp only[e]
 unfold bK;rw[e2];dsimp only;rw[if_pos (Nat.lt_trans hl (by decide))]
theorem De(e:h[i]? =some (.lst acc))(ys:List PV)(hl:acc.length+ys.length≤16000000):jW (.ref i) (.lst ys) h=.ok (.ref h.length) (h++ [.lst (acc++ys)]):=by unfold jW;simp only[Tw,e];rw[if_pos (Nat.le_trans hl (by decide))]
theorem Df(e:h[i]? =some (.lst acc))(ys:List PV)(hl:acc.length+ys.length≤16000000):aB (.ref i) (.lst ys) h=.ok (.lst (acc++ys)) h:=by show vU (.ref i) (.lst ys) h=_;unfold vU;simp only[Tw,e];rw[if_pos (Nat.le_trans hl (by decide))]
theorem Fj(xs ys:List PV)(hl:xs.length+ys.length≤16000000):jW (.lst xs) (.lst ys) h=.ok (.ref h.length) (h++ [.lst (xs++ys)]):=by unfold jW;simp only[Tw];rw[if_pos (Nat.le_trans hl (by decide))]
end
theorem sL{h:List PO}{o:PO}:(h++ [o])[h.length]? =some o:=by simp
theorem EN{h:List PO}{i:Nat}{o o':PO}(e:h[i]? =some o):(h.set i o')[i]? =some o':=by have hi:i<h.length:=(List.getElem?_eq_some_iff.mp e).1;rw[List.getElem?_set_self hi]
def tG(d:Nat):Prop:=∀(b:j8)(w:List Int)(ns:List (List Nat))(k:Nat),dS b≤d→dS b+1≤k→w.length+2 * dS b+10≤10000→ns.length+60 * dS b+60≤100000→wS b=true→J5 b≤1000000→
 F k .G_ [.tup (d9 b),wy w,nms ns]=.ok (.lst ((spS w 0 ns b).map Oa))
theorem Ap(d k:Nat)(ok:∀d',d'<d→tG d')(a:PV)(w:List Int)(ns:List (List Nat))(j:Nat)(n:Nd)(hd:dN n≤d)(hk:d≤k)(lw:w.length+2 * d+10≤10000)(ln:ns.length+60 * d+60≤100000)(hw:wN n=true)(hc:Ph n≤1000000)
  (h:List PO) (i:Nat) (acc:List PV) (e:h[i]? =some (.lst acc)) (la:acc.length≤10000000):∃h' i',
  bu (F k) [some a,some (wy w),some (nms ns),some (.ref i),some (.int j),some (nd n)] h=.nx [some a,some (wy w),some (nms ns),some (.ref i'),some (.int j),some (nd n)] h'∧
   h'[i']? =some (.lst (acc++Oa (w++ [(j:Int)],n,ns)::(Rc (w++ [(j:Int)]) ns n).map Oa)):=by
 have l1:(w++ [(j:Int)]).length=w.length+1:=by simp
 have ad:∀h,aB (wy w) (.tup [.int j]) h=.ok (wy (w++ [(j:Int)])) h:=fun h=>Dd w [(j:Int)] _ (by simp;omega)
 have ad2:∀h (z:Int),aB (wy w) (.tup [.int j,.int z]) h=.ok (wy (w++ [(j:Int)]++[z])) h:=fun h z=>by have:=Dd w [(j:Int),z] h (by simp;omega);rw[show w++ [(j:Int)]++[z]=w++ [(j:Int),z] by simp];exact this
 have W0:ei h (.ref i)=true:=JQ e;have ap:=CZ e (Oa (w++ [(j:Int)],n,ns)) (by omega);have Ww:bK (.ref i) [.tup [wy (w++ [(j:Int)]),nd n,nms ns]] h=.ok .non (h.set i (.lst (acc++ [Oa (w++ [(j:Int)],n,ns)]))):=ap;have e2:(h.set i (.lst (acc++ [Oa (w++ [(j:Int)],n,ns)])))[i]? =some (.lst (acc++ [Oa (w++ [(j:Int)],n,ns)])):=EN e;generalize hh:h.set i (.lst (acc++ [Oa (w++ [(j:Int)],n,ns)]))=h2 at Ww e2;have Zc:(acc++ [Oa (w++ [(j:Int)],n,ns)]).length=acc.length+1:=by simp
 have d1:=Fa e;have d2:=Fa e2
 cases n with
 |text s=>exact⟨h2,i,by simp only[EX,bu,d1,W0,ad,Ww],e2⟩
 |place p s=>exact⟨h2,i,by simp only[EX,bu,d1,W0,ad,Ww],e2⟩
 |body p=>exact⟨h2,i,by simp only[EX,bu,d1,W0,ad,Ww],e2⟩
 |use x p=>exact⟨h2,i,by simp only[EX,bu,d1,W0,ad,Ww],e2⟩
 |loop x p b t=>rw[dN]at hd;rw[wN,ab1,ab1,ab1]at hw;rw[Ph]at hc;have sk:=ok (dS b) (by omega) b (w++ [(j:Int)]) (ns++ [x]) k (ab2 _) (by omega) (by rw[l1];omega) (by simp;omega) hw.2.2.1 hc;have cs:∀h,bg (F k .G_) [.tup (d9 b),wy (w++ [(j:Int)]),nms (ns++ [x])] h=.ok (.lst ((spS (w++ [(j:Int)]) 0 (ns++ [x]) b).map Oa)) h:=fun h=>aN h (by simp[ah,PV.pure,aV b,df,bh]) sk;have an:∀h,aB (nms ns) (.tup [.str x]) h=.ok (nms (ns++ [x])) h:=fun h=>lT ns [x] h (by simp;omega);have am:=De e2 ((spS (w++ [(j:Int)]) 0 (ns++ [x]) b).map Oa) (by rw[Zc,List.length_map,dA];omega);refine⟨h2++ [.lst (acc++ [Oa (w++ [(j:Int)],.loop x p b t,ns)]++(spS (w++ [(j:Int)]) 0 (ns++ [x]) b).map Oa)],h2.length,?_,by rw[sL,Rc,List.append_assoc];rfl⟩;simp only[EX,bu,d1,d2,W0,ad,Ww,an,cs,am]
 |choice p y z=>rw[dN]at hd;rw[wN,ab1,ab1]at hw;rw[Ph]at hc;have my:=Nat.le_max_left (dS y) (dS z);have mz:=Nat.le_max_right (dS y) (dS z);have sy:=ok (dS y) (by omega) y (w++ [(j:Int)]++[0]) ns k (ab2 _) (by omega) (by rw[List.length_append,l1];simp;omega) (by omega) hw.2.1 (by omega);have sz:=ok (dS z) (by omega) z (w++ [(j:Int)]++[1]) ns k (ab2 _) (by omega) (by rw[List.length_append,l1];simp;omega) (by omega) hw.2.2 (by omega);have cy:∀h,bg (F k .G_) [.tup (d9 y),wy (w++ [(j:Int)]++[0]),nms ns] h=.ok (.lst ((spS (w++ [(j:Int)]++[0]) 0 ns y).map Oa)) h:=fun h=>aN h (by simp[ah,PV.pure,aV y,df,bh]) sy;have cz:∀h,bg (F k .G_) [.tup (d9 z),wy (w++ [(j:Int)]++[1]),nms ns] h=.ok (.lst ((spS (w++ [(j:Int)]++[1]) 0 ns z).map Oa)) h:=fun h=>aN h (by simp[ah,PV.pure,aV z,df,bh]) sz;have a1:=Df e2 ((spS (w++ [(j:Int)]++[0]) 0 ns y).map Oa) (by rw[Zc,List.length_map,dA];omega);have am:=Fj (h:=h2) (acc++ [Oa (w++ [(j:Int)],.choice p y z,ns)]++(spS (w++ [(j:Int)]++[0]) 0 ns y).map Oa) ((spS (w++ [(j:Int)]++[1]) 0 ns z).map Oa) (by rw[List.length_append,Zc,List.length_map,List.length_map,dA,dA];omega);refine⟨h2++ [.lst (acc++ [Oa (w++ [(j:Int)],.choice p y z,ns)]++(spS (w++ [(j:Int)]++[0]) 0 ns y).map Oa++(spS (w++ [(j:Int)]++[1]) 0 ns z).map Oa)],h2.length,?_,by rw[sL,Rc,List.map_append,List.append_assoc,List.append_assoc];rfl⟩;simp only[EX,bu,d1,d2,W0,ad,ad2,Ww,cy,cz,a1,am]
 |j6 x p hs b=>rw[dN]at hd;rw[wN,ab1,ab1,ab1,ab1]at hw;rw[Ph]at hc;have lh:=of_decide_eq_true hw.2.2.2.1;have sk:=ok (dS b) (by omega) b (w++ [(j:Int)]) (ns++hs) k (ab2 _) (by omega) (by rw[l1];omega) (by rw[List.length_append];omega) hw.2.2.2.2 hc;have cs:∀h,bg (F k .G_) [.tup (d9 b),wy (w++ [(j:Int)]),nms (ns++hs)] h=.ok (.lst ((spS (w++ [(j:Int)]) 0 (ns++hs) b).map Oa)) h:=fun h=>aN h (by simp[ah,PV.pure,aV b,df,bh]) sk;have an:∀h,aB (nms ns) (nms hs) h=.ok (nms (ns++hs)) h:=fun h=>lT ns hs h (by omega);have am:=De e2 ((spS (w++ [(j:Int)]) 0 (ns++hs) b).map Oa) (by rw[Zc,List.length_map,dA];omega);refine⟨h2++ [.lst (acc++ [Oa (w++ [(j:Int)],.j6 x p hs b,ns)]++(spS (w++ [(j:Int)]) 0 (ns++hs) b).map Oa)],h2.length,?_,by rw[sL,Rc,List.append_assoc];rfl⟩;simp only[EX,bu,d1,d2,W0,ad,Ww,an,cs,am]
theorem ot(d k:Nat)(ok:∀d',d'<d→tG d')(a:PV)(w:List Int)(ns:List (List Nat))(hk:d≤k)(lw:w.length+2 * d+10≤10000)(ln:ns.length+60 * d+60≤100000):
  ∀(b:j8)(j:Nat)(h:List PO)(i:Nat)(acc:List PV)(x4 x5:Option PV),dS b≤d→wS b=true→J5 b≤1000000→h[i]? =some (.lst acc)→acc.length+J5 b≤2000000→∃h' i' y4 y5,
   aJ aa_ (bu (F k)) (Rh j (d9 b)) [some a,some (wy w),some (nms ns),some (.ref i),x4,x5] h=.nx [some a,some (wy w),some (nms ns),some (.ref i'),y4,y5] h'∧
    h'[i']? =some (.lst (acc++(spS w j ns b).map Oa))
 |.nil,j,h,i,acc,x4,x5,_,_,_,e,_=>⟨h,i,x4,x5,by rw[d9,Rh,aJ],by rw[e,spS];simp⟩
 |.cons n r,j,h,i,acc,x4,x5,hd,hw,hc,e,hl=>by
  rw[dS]at hd;rw[wS,ab1]at hw;rw[J5]at hc hl;have dn:dN n≤d:=Nat.le_trans (Nat.le_max_left _ _) hd;have dr:dS r≤d:=Nat.le_trans (Nat.le_max_right _ _) hd;obtain⟨h1,i1,one,e1⟩:=Ap d k ok a w ns j n dn hk lw ln hw.1 (by omega) h i acc e (by omega)
  have la:(acc++Oa (w++ [(j:Int)],n,ns)::(Rc (w++ [(j:Int)]) ns n).map Oa).length=acc.length+1+Ph n:=by rw[List.length_append,List.length_cons,List.length_map,rn];omega
  obtain⟨h2,i2,y4,y5,lp,e2⟩:=ot d k ok a w ns hk lw ln r (j+1) h1 i1 _ (some (.int j)) (some (nd n)) dr hw.2 (by omega) e1 (by omega);refine⟨h2,i2,y4,y5,?_,?_⟩
  ·rw[d9,Rh,aJ];show(match bu (F k) [some a,some (wy w),some (nms ns),some (.ref i),some (.int j),some (nd n)] h with|.nx ρ2 h2=>_|.ct ρ2 h2=>_|.bk ρ2 h2=>_|.rt v h2=>_|.exc v h2=>_|.bad=>_)=_;rw[one];exact lp
  ·rw[e2,spS];simp
theorem Ao:∀d,tG d:=by
 intro d
 induction d using Nat.strongRecOn with
 |ind d ih=>
  intro b w ns k hd hk lw ln hw hc;obtain⟨k',rfl⟩:∃k',k=k'+1:=⟨k - 1,by omega⟩
  obtain⟨h',i',y4,y5,lp,e⟩:=ot (dS b) k' (fun d' h=>ih d' (by omega)) (.tup (d9 b)) w ns (by omega) lw ln b 0 [.lst []] 0 [] none none (ab2 _) hw hc rfl (by simp;omega);show bp (eP (F k')) 3 6 [.tup (d9 b),wy w,nms ns]=_
  have ru:eP (F k') [some (.tup (d9 b)),some (wy w),some (nms ns),none,none,none] []=.rt (.ref i') h':=by have dl:=Fa e;unfold eP;have s1:(aI 3 abf) [some (.tup (d9 b)),some (wy w),some (nms ns),none,none,none] []=.nx [some (.tup (d9 b)),some (wy w),some (nms ns),some (.ref 0),none,none] [.lst []]:=rfl;have s2:(fS abN aa_ (bu (F k'))) [some (.tup (d9 b)),some (wy w),some (nms ns),some (.ref 0),none,none] [.lst []]=.nx [some (.tup (d9 b)),some (wy w),some (nms ns),some (.ref i'),y4,y5] h':=lp;rw[cC,s1];dsimp only;rw[cC,s2];dsimp only;show dv (af 3 [some (.tup (d9 b)),some (wy w),some (nms ns),some (.ref i'),y4,y5] h') (fun v h1=>.rt v h1)=_;show dv (.ok (aj h' (.ref i')) h') (fun v h1=>SR.rt v h1)=_;rw[dl];rfl
  have r2:bp (eP (F k')) 3 6 [.tup (d9 b),wy w,nms ns]=match eP (F k') [some (.tup (d9 b)),some (wy w),some (nms ns),none,none,none] []with
   |.nx _ _=>.ok .non
   |.rt v h=>di v h
   |_=>.bad:=rfl
  rw[r2,ru];dsimp only;unfold di gR;dsimp only;rw[e,List.nil_append];dsimp only;rw[if_pos (rj _)]
def fd(d:Nat)(p:PV):Prop:=(toD p).canLay0=true∧(toD p).depth≤d∧p.pure=true
def fds(d:Nat)(l:List PV):Prop:=PyData.canLayAll0 (gv l)=true∧PyData.depthAll (gv l)≤d∧ah l=true
theorem cL(d:Nat):fds d []:=⟨by simp[gv,PyData.canLayAll0],by simp[gv,PyData.depthAll],by simp[ah]⟩
theorem aH{d:Nat}{p:PV}{l:List PV}(h:fd d p)(t:fds d l):fds d (p::l):=by
 refine⟨?_,?_,?_⟩
 ·simp only[gv,PyData.canLayAll0,h.1,t.1,Bool.and_self]
 ·simp only[gv,PyData.depthAll];exact Nat.max_le.mpr ⟨h.2.1,t.2.1⟩
 ·simp only[ah,h.2.2,t.2.2,Bool.and_self]
theorem cI{d:Nat}{l:List PV}(h:fds d l):fd (d+1) (.tup l):=by
 refine⟨?_,?_,?_⟩
 ·simp only[toD,PyData.canLay0,h.1]
 ·simp only[toD,PyData.depth];have:=h.2.1;omega
 ·simpa[PV.pure]using h.2.2
theorem JW(d:Nat)(b:Bool):fd d (.bl b):=⟨by simp[toD,PyData.canLay0],by simp[toD,PyData.depth],by simp[PV.pure]⟩
theorem bI{d e:Nat}{p:PV}(h:fd d p)(le:d≤e):fd e p:=⟨h.1,Nat.le_trans h.2.1 le,h.2.2⟩
theorem Cw{d e:Nat}{l:List PV}(h:fds d l)(le:d≤e):fds e l:=⟨h.1,Nat.le_trans h.2.1 le,h.2.2⟩
theorem EW{l:List PV}(hl:fds 59 l)(h:List L3.PO):M8 (.lst l) (.lst []) h=.ok (.bl l.isEmpty) h:=by
 have ok:PB h (.lst l)=true:=by unfold PB Qm;have:=hl.2.1;simp only[toD,PyData.canLay0,PyData.depth,hl.1,Bool.true_and,decide_eq_true_eq];omega
 unfold M8;rw[if_pos ⟨ok,rfl⟩]
 cases l<;>rfl
theorem Et{l:List PV}(hl:fds 59 l)(h:List L3.PO):Ry (.lst l) (.lst []) h=.ok (.bl (!l.isEmpty)) h:=by
 have ok:PB h (.lst l)=true:=by unfold PB Qm;have:=hl.2.1;simp only[toD,PyData.canLay0,PyData.depth,hl.1,Bool.true_and,decide_eq_true_eq];omega
 unfold Ry;rw[if_pos ⟨ok,rfl⟩]
 cases l<;>rfl
theorem Ih{α:Type}(l:List α)(b:Nat):cut l none (some (b:Int))=l.take b:=by
 unfold cut;rw[HT.Rx,HT.R6,List.drop_zero,Nat.sub_zero];rcases Nat.le_total b l.length with q|q
 ·rw[Nat.min_eq_left q]
 ·rw[Nat.min_eq_right q,List.take_of_length_le (ab2 _),List.take_of_length_le q]
theorem xk(xs:List PV)(lo hi:Option Int)(h:List PO):lg (.tup xs) lo hi h=.ok (.tup (cut xs lo hi)) h:=by
 unfold lg;dsimp only
 split
 ·rename_i hz;unfold cut;rw[hz.1,hz.2];simp
 ·rfl
theorem GD(xs:List PV)(j:Nat)(h:List PO):lg (.tup xs) none (some (j:Int)) h=.ok (.tup (xs.take j)) h:=by rw[xk,Ih]
theorem cY{d:Nat}{l:List Nat}(h:sg l=true):fd d (.str l):=⟨by simp only[toD,PyData.canLay0];simp[PyData.strOk,S];exact fun c hc=>jV h c hc,by simp[toD,PyData.depth],by simp[PV.pure]⟩
theorem sN(d:Nat)(i:Int):fd d (.int i):=⟨by simp[toD,PyData.canLay0],by simp[toD,PyData.depth],by simp[PV.pure]⟩
theorem wx(d:Nat):fd d .non:=⟨by simp[toD,PyData.canLay0],by simp[toD,PyData.depth],by simp[PV.pure]⟩
theorem hZ{d:Nat}:∀{l:List (List Nat)},Oq l=true→fds d (l.map PV.str)
 |[],_=>cL d
 |a::r,h=>by rw[Oq,List.all_cons,ab1]at h;exact aH (cY h.1) (hZ h.2)
theorem wz{d:Nat}{l:List (List Nat)}(h:Oq l=true):fd (d+1) (nms l):=cI (hZ h)
theorem sM{d:Nat}{p:Ou}(h:wp p=true):fd (d+1) (QV p):=by rw[wp,ab1,ab1]at h;exact cI (aH (cY h.1) (hZ h.2.1))
theorem lJ{d:Nat}:∀{l:List Ou},l.all wp=true→fds (d+1) (dR l)
 |[],_=>cL _
 |a::r,h=>by rw[List.all_cons,ab1]at h;exact aH (sM h.1) (lJ h.2)
theorem qX{l:List Ou}(h:wps l=true):l.all wp=true:=by rw[wps,ab1]at h;exact h.1
theorem mU:sg tT=true∧sg tP=true∧sg tL=true∧sg tC=true∧sg tU=true∧sg tB=true∧sg tI=true:=by decide
mutual
theorem FT:∀{n:Nd},wN n=true→fd (2 * dN n+4) (nd n)
 |.text s,h=>by rw[wN]at h;rw[nd];exact bI (cI (aH (cY mU.1) (aH (cY h) (cL 0)))) (by omega)
 |.place p w,h=>by rw[wN,ab1]at h;rw[nd];exact bI (cI (d:=1) (aH (cY mU.2.1) (aH (sM h.1) (aH (cY h.2) (cL 1))))) (by omega)
 |.loop x p b t,h=>by rw[wN,ab1,ab1,ab1]at h;rw[nd,dN];have q:=cI (pr h.2.2.1);exact bI (cI (aH (cY mU.2.2.1) (aH (cY h.1) (aH (bI (sM (d:=0) h.2.1) (by omega)) (aH q (aH (cY h.2.2.2) (cL _))))))) (by omega)
 |.choice p y z,h=>by rw[wN,ab1,ab1]at h;rw[nd,dN];have m1:=Nat.le_max_left (dS y) (dS z);have m2:=Nat.le_max_right (dS y) (dS z);have q1:=bI (e:=2 * max (dS y) (dS z)+5) (cI (pr h.2.1)) (by omega);have q2:=bI (e:=2 * max (dS y) (dS z)+5) (cI (pr h.2.2)) (by omega);exact bI (cI (aH (cY mU.2.2.2.1) (aH (bI (sM (d:=0) h.1) (by omega)) (aH q1 (aH q2 (cL _)))))) (by omega)
 |.use x ps,h=>by rw[wN,ab1]at h;rw[nd];exact bI (cI (d:=2) (aH (cY mU.2.2.2.2.1) (aH (cY h.1) (aH (cI (lJ (qX h.2))) (aH (wx _) (aH (wx _) (cL 2))))))) (by omega)
 |.j6 x ps hs b,h=>by rw[wN,ab1,ab1,ab1,ab1]at h;rw[nd,dN];have q:=cI (pr h.2.2.2.2);exact bI (cI (aH (cY mU.2.2.2.2.1) (aH (cY h.1) (aH (bI (cI (lJ (d:=0) (qX h.2.1))) (by omega)) (aH (bI (wz (d:=0) h.2.2.1) (by omega)) (aH q (cL _))))))) (by omega)
 |.body ps,h=>by rw[wN]at h;rw[nd];exact bI (cI (d:=2) (aH (cY mU.2.2.2.2.2.1) (aH (cI (lJ (qX h))) (cL 2)))) (by omega)
theorem pr:∀{b:j8},wS b=true→fds (2 * dS b+4) (d9 b)
 |.nil,_=>by rw[d9];exact cL _
 |.cons n r,h=>by rw[wS,ab1]at h;rw[d9,dS];have m1:=Nat.le_max_left (dN n) (dS r);have m2:=Nat.le_max_right (dN n) (dS r);exact aH (bI (FT h.1) (by omega)) (Cw (pr h.2) (by omega))
end
theorem pk{α:Type}{tt:Tx}{te:Ex}{cp:Ev}{h:List PO}(f:α→PV)(T:α→Bool)(g:α→PV):∀l:List α,(∀x∈l,tt (some (f x)::cp) h=.ok (T x) h)→(∀x∈l,te (some (f x)::cp) h=.ok (g x) h)→bv tt te cp (l.map f) h=.ok ((l.filter T).map g) h
 |[],_,_=>rfl
 |x::r,h1,h2=>by
  have ih:=pk f T g r (fun z hz=>h1 z (List.mem_cons_of_mem _ hz)) fun z hz=>h2 z (List.mem_cons_of_mem _ hz);rw[List.map_cons,bv,h1 x List.mem_cons_self];simp only[Res.M4]
  cases e:T x with
  |true=>rw[if_pos rfl,h2 x List.mem_cons_self,List.filter_cons_of_pos e];simp only[Res.M4,ih,List.map_cons]
  |false=>rw[if_neg (by decide),ih,List.filter_cons_of_neg (by rw[e];decide)]
theorem FP{B:List Pc}{i:Nat}{q:Pc}(e:B[i]? =some q)(h:List PO):b_ (bk B) (.int i) h=.ok (pc q) h:=by show(match O8 (B.map pc) (i:Int)with|some v=>Res.ok (aj h v) h|none=>Res.bad)=_;rw[dj (v:=pc q) (by omega) (by rw[Int.toNat_natCast,List.getElem?_map,e];rfl)];rfl
theorem JZ{a b:List Nat}(ha:sg a=true)(hb:sg b=true)(h:List PO):M8 (.str a) (.str b) h=.ok (.bl (decide (a=b))) h:=Bz a b h (jV ha) (jV hb)
mutual
theorem Gv(w:List Int)(ns:List (List Nat))(hn:Oq ns=true):∀n:Nd,wN n=true→∀x∈Rc w ns n,wN x.2.1=true∧Oq x.2.2=true
 |.loop n _ b _,hw=>by rw[wN,ab1,ab1,ab1]at hw;rw[Rc];exact lZ _ _ _ (kR hn (by simp[Oq,hw.1])) b hw.2.2.1
 |.choice _ y z,hw=>by
  rw[wN,ab1,ab1]at hw;rw[Rc];intro x hx;rcases List.mem_append.mp hx with h|h
  ·exact lZ _ _ _ hn y hw.2.1 x h
  ·exact lZ _ _ _ hn z hw.2.2 x h
 |.j6 _ _ h b,hw=>by rw[wN,ab1,ab1,ab1,ab1]at hw;rw[Rc];exact lZ _ _ _ (kR hn hw.2.2.1) b hw.2.2.2.2
 |.text _,_=>fun x hx=>by cases hx
 |.place _ _,_=>fun x hx=>by cases hx
 |.use _ _,_=>fun x hx=>by cases hx
 |.body _,_=>fun x hx=>by cases hx
theorem lZ(w:List Int)(k:Nat)(ns:List (List Nat))(hn:Oq ns=true):∀b:j8,wS b=true→∀x∈spS w k ns b,wN x.2.1=true∧Oq x.2.2=true
 |.nil,_=>fun x hx=>by cases hx
 |.cons n r,hw=>by
  rw[wS,ab1]at hw;rw[spS];intro x hx;rcases List.mem_cons.mp hx with h|h
  ·subst h;exact⟨hw.1,hn⟩
  rcases List.mem_append.mp h with h|h
  ·exact Gv _ _ hn n hw.1 x h
  ·exact lZ _ _ _ hn r hw.2 x h
end
theorem mH{α:Type}{te:Ex}{cp:Ev}{h:List PO}(f g:α→PV)(l:List α)(h2:∀x∈l,te (some (f x)::cp) h=.ok (g x) h):bv cJ te cp (l.map f) h=.ok (l.map g) h:=by rw[pk f (fun _=>true) g l (fun _ _=>rfl) h2,List.filter_eq_self.mpr fun _ _=>rfl]
theorem hG:∀B:List Pc,ah (B.map pc)=true
 |[]=>rfl
 |q::r=>by rw[List.map_cons,ah,fU,hG r];rfl
theorem dG(B:List Pc):(bk B).pure=true:=by unfold bk;rw[PV.pure];exact hG B
abbrev Sz:=Int×Int×Int×Int
noncomputable def Od(s:Sz):PV:=.tup [.int s.1,.int s.2.1,.int s.2.2.1,.int s.2.2.2]
def bd(X:Nat)(s:Sz):Prop:=(0≤s.1∧s.1≤X)∧(0≤s.2.1∧s.2.1≤X)∧(0≤s.2.2.1∧s.2.2.1≤X)∧(0≤s.2.2.2∧s.2.2.2≤X)
theorem jL{X Y:Nat}{s:Sz}(h:bd X s)(le:X≤Y):bd Y s:=by unfold bd at*;omega
section
variable(s:Sz)(h:List PO)
theorem ud:b_ (Od s) (.int 0) h=.ok (.int s.1) h:=rfl
theorem uc:b_ (Od s) (.int 1) h=.ok (.int s.2.1) h:=rfl
theorem vA:b_ (Od s) (.int 2) h=.ok (.int s.2.2.1) h:=rfl
theorem An:b_ (Od s) (.int 3) h=.ok (.int s.2.2.2) h:=rfl
theorem jU:aj h (Od s)=Od s:=rfl
theorem eT:(Od s).pure=true:=rfl
end
noncomputable def U3(a b:Sz):Sz:=(a.1+b.1,(if b.2.1>a.2.1 then b.2.1 else a.2.1),a.2.2.1+b.2.2.1,(if b.2.2.2>a.2.2.2 then b.2.2.2 else a.2.2.2))
noncomputable def Sy(a:Sz):Sz:=(a.1+1,a.2.1+1,a.2.2.1,if(a.2.2.1 !=0)=true then a.2.2.2+1 else 0)
noncomputable def VP(p b:Sz):Sz:=if p.2.2.1=0 then(p.1,p.2.1,0,0)else(p.1+p.2.2.1 * b.1,(if p.2.2.2+b.2.1>p.2.1 then p.2.2.2+b.2.1 else p.2.1),p.2.2.1 * b.2.2.1,if(b.2.2.1 !=0)=true then p.2.2.2+b.2.2.2 else 0)
theorem DA(k X Y:Nat)(a b:Sz)(ha:bd X a)(hb:bd Y b):bd (X+Y) (U3 a b)∧F (k+1) .D_ [Od a,Od b]=.ok (Od (U3 a b)):=by
 refine⟨?_,?_⟩
 ·unfold bd U3 at*;dsimp only;refine⟨by omega,by split<;>omega,by omega,by split<;>omega⟩
 ·show bp (eo (F k)) 2 2 [Od a,Od b]=_;simp only[EX,bp,eo,jU,ud,uc,vA,An];rfl
theorem yF(k X:Nat)(a:Sz)(ha:bd X a):bd (X+1) (Sy a)∧F (k+1) .u_ [Od a]=.ok (Od (Sy a)):=by
 unfold bd at ha
 cases e:a.2.2.1 !=0 with
 |true=>refine⟨by unfold bd Sy;rw[e];dsimp only;simp only[if_true];omega,?_⟩;unfold Sy;rw[e];show bp (cF (F k)) 1 2 [Od a]=_;simp only[EX,bp,cF,jU,ud,uc,vA,An,e];rfl
 |false=>refine⟨by unfold bd Sy;rw[e];dsimp only;simp only[Bool.false_eq_true,if_false];omega,?_⟩;unfold Sy;rw[e];show bp (cF (F k)) 1 2 [Od a]=_;simp only[EX,bp,cF,jU,ud,uc,vA,An,e];rfl
mutual
def Qo(kn:List (List Nat)):Nd→Bool
 |.loop _ _ b _=>Qi kn b
 |.choice _ y n=>Qi kn y&&Qi kn n
 |.use x _=>kn.contains x
 |.j6 x _ _ b=>kn.contains x&&Qi kn b
 |_=>true
def Qi(kn:List (List Nat)):j8→Bool
 |.nil=>true
 |.cons n r=>Qo kn n&&Qi kn r
end
noncomputable def O4:j8→j8→j8
 |.nil,z=>z
 |.cons n r,z=>.cons n (O4 r z)
theorem mD:∀(y z:j8),d9 (O4 y z)=d9 y++d9 z
 |.nil,z=>by rw[O4,d9];rfl
 |.cons n r,z=>by rw[O4,d9,d9,mD r z];rfl
theorem CG:∀(y z:j8),dS (O4 y z)=max (dS y) (dS z)
 |.nil,z=>by rw[O4,dS,Nat.zero_max]
 |.cons n r,z=>by rw[O4,dS,dS,CG r z,Nat.max_assoc]
theorem pA:∀(y z:j8),J5 (O4 y z)=J5 y+J5 z
 |.nil,z=>by rw[O4,J5];omega
 |.cons n r,z=>by rw[O4,J5,J5,pA r z];omega
theorem vt(kn:List (List Nat)):∀(y z:j8),Qi kn (O4 y z)=(Qi kn y&&Qi kn z)
 |.nil,z=>by rw[O4,Qi];simp
 |.cons n r,z=>by rw[O4,Qi,Qi,vt kn r z,Bool.and_assoc]
theorem Fq:∀(y z:j8),wS (O4 y z)=(wS y&&wS z)
 |.nil,z=>by rw[O4,wS];simp
 |.cons n r,z=>by rw[O4,wS,wS,Fq r z,Bool.and_assoc]
theorem gH:∀b:j8,(d9 b).length≤J5 b
 |.nil=>by rw[d9,J5];simp
 |.cons n r=>by rw[d9,J5,List.length_cons];have:=gH r;omega
def M7(S:List (List Nat×Sz)):PO:=.dct (S.map fun x=>(.inr x.1,Od x.2))
theorem dY(S:List (List Nat×Sz)):(M7 S).pure=true:=by
 show dL _=true;rw[eJ,List.map_map]
 induction S with
 |nil=>rfl
 |cons q r ih=>rw[List.map_cons,ah,ih];rfl
theorem tR(n:List Nat):∀S:List (List Nat×Sz),(S.map (·.1)).contains n=true→∃x∈S,S.find? (fun x=>x.1==n)=some x∧il (S.map fun x=>(Sum.inr x.1,Od x.2)) (.inr n)=some (Od x.2)
 |[],h=>by cases h
 |x::r,h=>by
  by_cases e:x.1=n
  ·subst e;exact⟨x,List.mem_cons_self,by simp,by simp[il]⟩
  ·rw[List.map_cons,List.contains_cons,Bool.or_eq_true]at h;rcases h with h|h
   ·exact(e (eq_of_beq h).symm).elim
   ·obtain⟨y,hy,zf,z⟩:=tR n r h;refine⟨y,List.mem_cons_of_mem _ hy,?_,?_⟩
    ·rw[List.find?_cons_of_neg (by simpa using e)];exact zf
    ·rw[← z];simp[il,e]
mutual
def Pb(S:List Nat→Sz):Nd→Sz
 |.loop _ _ b _=>Sy (O3 S (0,0,0,0) b)
 |.choice _ y n=>Sy (O3 S (O3 S (0,0,0,0) y) n)
 |.use x _=>Sy ((S x).1,(S x).2.1,0,0)
 |.j6 x _ _ b=>Sy (VP (S x) (O3 S (0,0,0,0) b))
 |.body _=>(1,1,1,1)
 |_=>(1,1,0,0)
def O3(S:List Nat→Sz)(a:Sz):j8→Sz
 |.nil=>a
 |.cons n r=>O3 S (U3 a (Pb S n)) r
end
theorem vD(S:List Nat→Sz):∀(y:j8)(a:Sz)(z:j8),O3 S a (O4 y z)=O3 S (O3 S a y) z
 |.nil,a,z=>by rw[O4,O3]
 |.cons n r,a,z=>by rw[O4,O3,O3];exact vD S r _ z
def Oj(S:List (List Nat×Sz))(n:List Nat):Sz:=((S.find? fun x=>x.1==n).map (·.2)).getD (0,0,0,0)
theorem wl(n:List Nat)(S:List (List Nat×Sz))(e:(S.map (·.1)).contains n=true):∃x∈S,Oj S n=x.2∧∀r,b_ (.ref 0) (.str n) (M7 S::r)=.ok (Od x.2) (M7 S::r):=by obtain⟨x,hx,zf,z⟩:=tR n S e;refine⟨x,hx,by unfold Oj;rw[zf];rfl,fun r=>?_⟩;show(match il (S.map fun x=>(Sum.inr x.1,Od x.2)) (.inr n)with|some v=>Res.ok (aj (M7 S::r) v) (M7 S::r)|none=>Res.bad)=_;rw[z];rfl
def Dg(S:List (List Nat×Sz))(c d:Nat):Prop:=∀(b:j8)(k:Nat),dS b≤d→Qi (S.map (·.1)) b=true→J5 b≤1000000→3 * dS b+4≤k→
 bd (J5 b * (2 ^ c) ^ (dS b+1)) (O3 (Oj S) (0,0,0,0) b)∧L k .g_ [.tup (d9 b),.ref 0] [M7 S]=.ok (Od (O3 (Oj S) (0,0,0,0) b)) [M7 S]
theorem uP{v:PV}{o:PO}(hv:v.pure=true)(ho:o.pure=true):dq 1 v [o]=.ok v [o]:=by unfold dq;rw[hR _ hv];dsimp only;unfold fQ;simp[bC,ho]
theorem yu{x:Int}{n:Nat}(h0:0≤x)(h:x<2 ^ n):Builtin.Int.intBits x≤n:=intBits_le_iff.mpr (by
 have:((x.natAbs:Nat):Int)<((2 ^ n:Nat):Int):=by rw[Int.natCast_pow];show _<(2:Int) ^ n;omega
 omega)
theorem Eu{a b c d q:Nat}(h:a≤b)(hq:1≤q)(hc:c≤d):a * q ^ c≤b * q ^ d:=Nat.mul_le_mul h (Nat.pow_le_pow_right hq hc)
theorem yM(S:List (List Nat×Sz))(c d:Nat)(hS:∀x∈S,bd (2 ^ c - 1) x.2)(hc:8 * c+30≤134217728)(hd:d≤6)(ok:∀d',d'<d→Dg S c d')(n:Nd)(k:Nat)(dn:dN n≤d)(us:Qo (S.map (·.1)) n=true)(ct:Ph n≤1000000)(hk:3 * dN n+3≤k):
  bd ((Ph n+1) * (2 ^ c) ^ (dN n+1)) (Pb (Oj S) n)∧L k .n_ [nd n,.ref 0] [M7 S]=.ok (Od (Pb (Oj S) n)) [M7 S]:=by
 obtain⟨k',rfl⟩:∃k',k=k'+3:=⟨k - 3,by omega⟩
 have q1:1≤2 ^ c:=Nat.one_le_two_pow;have fin:∀s:Sz,dq 1 (Od s) [M7 S]=.ok (Od s) [M7 S]:=fun s=>uP (eT s) (dY S);have d0:aj [M7 S] (.ref 0)=.ref 0:=rfl;have r2:∀p1 p2:PV,eC (aP (F (k'+2)) (L (k'+2))) 2 2 [p1,p2] [M7 S]=match aP (F (k'+2)) (L (k'+2)) [some p1,some p2] [M7 S]with|.nx _ h1=>fQ 1 .non h1|.rt v h1=>dq 1 v h1|_=>.bad:=fun _ _=>rfl
 have leaf:∀s:Sz,Pb (Oj S) n=s→bd 1 s→aP (F (k'+2)) (L (k'+2)) [some (nd n),some (.ref 0)] [M7 S]=.rt (Od s) [M7 S]→bd ((Ph n+1) * (2 ^ c) ^ (dN n+1)) (Pb (Oj S) n)∧L (k'+3) .n_ [nd n,.ref 0] [M7 S]=.ok (Od (Pb (Oj S) n)) [M7 S]:=fun s es hs e=>by
  rw[es]
  exact⟨jL hs (Nat.mul_pos (by omega) (Nat.pow_pos q1)),by show eC (aP (F (k'+2)) (L (k'+2))) 2 2 [nd n,.ref 0] [M7 S]=_;rw[r2,e];exact fin s⟩
 have wi:∀(X:Nat)(s:Sz),Pb (Oj S) n=Sy s→bd X s→X+1≤(Ph n+1) * (2 ^ c) ^ (dN n+1)→(∀s',(∀h,bg (F (k'+2) .u_) [Od s] h=.ok (Od s') h)→aP (F (k'+2)) (L (k'+2)) [some (nd n),some (.ref 0)] [M7 S]=.rt (Od s') [M7 S])→
   bd ((Ph n+1) * (2 ^ c) ^ (dN n+1)) (Pb (Oj S) n)∧L (k'+3) .n_ [nd n,.ref 0] [M7 S]=.ok (Od (Pb (Oj S) n)) [M7 S]:=fun X s es hs hX e=>by
  obtain⟨b',e'⟩:=yF (k'+1) X s hs;rw[es];refine⟨jL b' hX,?_⟩;show eC (aP (F (k'+2)) (L (k'+2))) 2 2 [nd n,.ref 0] [M7 S]=_;rw[r2,e (Sy s) fun h=>aN h (by rw[ah,eT];rfl) e'];exact fin _
 cases n with
 |text s=>exact leaf (1,1,0,0) rfl (by unfold bd;dsimp only;omega) (by simp only[EX,nd,aP];rfl)
 |place p s=>exact leaf (1,1,0,0) rfl (by unfold bd;dsimp only;omega) (by simp only[EX,nd,aP];rfl)
 |body p=>exact leaf (1,1,1,1) rfl (by unfold bd;dsimp only;omega) (by simp only[EX,nd,aP];rfl)
 |loop x p b t=>
  rw[dN]at dn hk;rw[Qo]at us;rw[Ph]at ct;obtain⟨bs,e⟩:=ok (dS b) (by omega) b (k'+2) (ab2 _) us ct (by omega);obtain⟨s,es⟩:∃s,O3 (Oj S) (0,0,0,0) b=s:=⟨_,rfl⟩
  rw[es]at bs e;have cc:=(bT (fn:=L (k'+2) .g_) [.tup (d9 b)] (o:=M7 S) (by simp[ah,PV.pure,aV b]) (dY S)).1 _ (eT s) e;simp only[List.cons_append,List.nil_append]at cc;refine wi _ s (by rw[Pb,es]) bs ?_ fun s' cw=>?_
  ·rw[dN,Ph,Nat.add_mul];exact Nat.add_le_add (Eu (ab2 _) q1 (by omega)) (Nat.mul_pos (by omega) (Nat.pow_pos q1))
  ·have i0:∀h,b_ (nd (.loop x p b t)) (.int 0) h=.ok (.str tL) h:=fun h=>by rw[nd];rfl
   simp only[EX,aP,i0,d0,cc,cw]
 |choice p y z=>
  rw[dN]at dn hk;rw[Qo,ab1]at us;rw[Ph]at ct;have da:=CG y z;obtain⟨bs,e⟩:=ok (dS (O4 y z)) (by omega) (O4 y z) (k'+2) (ab2 _) (by rw[vt,us.1,us.2];rfl) (by rw[pA];exact ct) (by omega);obtain⟨s,es⟩:∃s,O3 (Oj S) (0,0,0,0) (O4 y z)=s:=⟨_,rfl⟩
  rw[es]at bs e;rw[vD]at es;rw[mD]at e;have cc:=(bT (fn:=L (k'+2) .g_) [.tup (d9 y++d9 z)] (o:=M7 S) (by rw[← mD];simp[ah,PV.pure,aV]) (dY S)).1 _ (eT s) e;simp only[List.cons_append,List.nil_append]at cc;have ly:∀b:j8,(d9 b).length≤J5 b:=fun b=>gH b;refine wi _ s (by rw[Pb,es]) bs ?_ fun s' cw=>?_
  ·rw[dN,Ph,Nat.add_mul,pA,da];exact Nat.add_le_add (Eu (ab2 _) q1 (by omega)) (Nat.mul_pos (by omega) (Nat.pow_pos q1))
  ·have i0:∀h,b_ (nd (.choice p y z)) (.int 0) h=.ok (.str tC) h:=fun h=>by rw[nd];rfl
   have aa:∀h,aB (.tup (d9 y)) (.tup (d9 z)) h=.ok (.tup (d9 y++d9 z)) h:=fun h=>iT _ _ h (by have:=ly y;have:=ly z;exact Nat.le_trans (by omega:_≤1000000) (by decide));simp only[EX,aP,i0,d0,aa,cc,cw]
 |use x ps=>
  rw[Qo]at us;obtain⟨y,hy,yl,ix⟩:=wl x S us;have Zu:=hS y hy
  have e:L (k'+2) .k_ [nd (.use x ps),.ref 0] [M7 S]=.ok (Od (y.2.1,y.2.2.1,0,0)) [M7 S]:=by
   show eC (aZ (F (k'+1)) (L (k'+1))) 2 6 [nd (.use x ps),.ref 0] [M7 S]=_
   have ru:aZ (F (k'+1)) (L (k'+1)) [some (nd (.use x ps)),some (.ref 0),none,none,none,none] [M7 S]=.rt (Od (y.2.1,y.2.2.1,0,0)) [M7 S]:=by simp only[EX,aZ,d0,ix,jU,ud,uc,vA];rfl
   have r3:eC (aZ (F (k'+1)) (L (k'+1))) 2 6 [nd (.use x ps),.ref 0] [M7 S]=match aZ (F (k'+1)) (L (k'+1)) [some (nd (.use x ps)),some (.ref 0),none,none,none,none] [M7 S]with|.nx _ h1=>fQ 1 .non h1|.rt v h1=>dq 1 v h1|_=>.bad:=rfl
   rw[r3,ru];exact fin _
  have cc:=(bT (fn:=L (k'+2) .k_) [nd (.use x ps)] (o:=M7 S) (by simp[ah,bH]) (dY S)).1 _ (eT _) e;simp only[List.cons_append,List.nil_append]at cc;refine wi (2 ^ c - 1) (y.2.1,y.2.2.1,0,0) (by rw[Pb,yl]) (by unfold bd at*;dsimp only;omega) ?_ fun s' cw=>?_
  ·have z1:dN (.use x ps)=0:=rfl;have z2:Ph (.use x ps)=0:=rfl;rw[z1,z2,Nat.zero_add,Nat.one_mul,Nat.pow_one];omega
  ·have i0:∀h,b_ (nd (.use x ps)) (.int 0) h=.ok (.str tU) h:=fun h=>by rw[nd];rfl
   simp only[EX,aP,i0,d0,cc,cw]
 |j6 x ps hs b=>
  rw[dN]at dn hk;rw[Qo,ab1]at us;rw[Ph]at ct;obtain⟨y,hy,yl,ix⟩:=wl x S us.1;have Zu:=hS y hy;obtain⟨bs,e⟩:=ok (dS b) (by omega) b (k'+1) (ab2 _) us.2 ct (by omega);obtain⟨s,es⟩:∃s,O3 (Oj S) (0,0,0,0) b=s:=⟨_,rfl⟩
  rw[es]at bs e;have cn:=(bT (fn:=L (k'+1) .g_) [.tup (d9 b)] (o:=M7 S) (by simp[ah,PV.pure,aV b]) (dY S)).1 _ (eT s) e;simp only[List.cons_append,List.nil_append]at cn
  have key:∃s2,s2=VP y.2 s∧bd ((2 ^ c - 1) * (J5 b * (2 ^ c) ^ (dS b+1))+(J5 b * (2 ^ c) ^ (dS b+1))+(2 ^ c - 1)) s2∧L (k'+2) .k_ [nd (.j6 x ps hs b),.ref 0] [M7 S]=.ok (Od s2) [M7 S]:=by
   have r3:∀s2,aZ (F (k'+1)) (L (k'+1)) [some (nd (.j6 x ps hs b)),some (.ref 0),none,none,none,none] [M7 S]=.rt (Od s2) [M7 S]→L (k'+2) .k_ [nd (.j6 x ps hs b),.ref 0] [M7 S]=.ok (Od s2) [M7 S]:=fun s2 ru=>by
    have r4:L (k'+2) .k_ [nd (.j6 x ps hs b),.ref 0] [M7 S]=match aZ (F (k'+1)) (L (k'+1)) [some (nd (.j6 x ps hs b)),some (.ref 0),none,none,none,none] [M7 S]with|.nx _ h1=>fQ 1 .non h1|.rt v h1=>dq 1 v h1|_=>.bad:=rfl
    rw[r4,ru];exact fin _
   by_cases m0:y.2.2.2.1=0
   ·refine⟨(y.2.1,y.2.2.1,0,0),by unfold VP;rw[if_pos m0],by unfold bd at*;dsimp only;omega,r3 _ ?_⟩;have z0:decide (y.2.2.2.1=0)=true:=decide_eq_true m0;simp only[EX,aZ,d0,ix,jU,ud,uc,vA,z0];rfl
   ·have z0:decide (y.2.2.2.1=0)=false:=decide_eq_false m0;have hq:(2 ^ c) ^ (dS b+1)=2 ^ (c * (dS b+1)):=by rw[Nat.pow_mul]
    have lb:J5 b * (2 ^ c) ^ (dS b+1)<2 ^ (20+c * (dS b+1)):=by rw[hq,Nat.pow_add];exact Nat.mul_lt_mul_of_pos_right (Nat.lt_of_le_of_lt ct (by decide)) (Nat.two_pow_pos _)
    have cl:c * (dS b+1)≤c * 6:=Nat.mul_le_mul_left _ (by omega)
    have bm:∀v:Int,0≤v→v≤((J5 b * (2 ^ c) ^ (dS b+1):Nat):Int)→hJ y.2.2.2.1 v=true:=fun v v0 v1=>HJ (decide_eq_true (by
     have b1:Builtin.Int.intBits y.2.2.2.1≤c:=yu (by unfold bd at Zu;omega) (by
      have:((2 ^ c:Nat):Int)=(2:Int) ^ c:=by rw[Int.natCast_pow];rfl
      unfold bd at Zu;omega)
     have b2:Builtin.Int.intBits v≤20+c * (dS b+1):=yu v0 (by
      have:((2 ^ (20+c * (dS b+1)):Nat):Int)=(2:Int) ^ (20+c * (dS b+1)):=by rw[Int.natCast_pow];rfl
      rw[← this];omega)
     omega))
    have mle:∀v:Int,0≤v→v≤((J5 b * (2 ^ c) ^ (dS b+1):Nat):Int)→0≤y.2.2.2.1 * v∧y.2.2.2.1 * v≤(((2 ^ c - 1) * (J5 b * (2 ^ c) ^ (dS b+1)):Nat):Int):=fun v v0 v1=>by have h3:=Zu.2.2.1;refine⟨Int.mul_nonneg h3.1 v0,?_⟩;rw[Int.natCast_mul];exact Int.mul_le_mul h3.2 v1 v0 (by omega)
    have s0:=bs.1;have s2:=bs.2.2.1;have m1:=bm s.1 s0.1 s0.2;have m2:=bm s.2.2.1 s2.1 s2.2;have n1:=mle s.1 s0.1 s0.2;have n2:=mle s.2.2.1 s2.1 s2.2
    cases t:s.2.2.1 !=0 with
    |true=>
     refine⟨(y.2.1+y.2.2.2.1 * s.1,(if y.2.2.2.2+s.2.1>y.2.2.1 then y.2.2.2.2+s.2.1 else y.2.2.1),y.2.2.2.1 * s.2.2.1,y.2.2.2.2+s.2.2.2),by unfold VP;rw[if_neg m0,t];rfl,?_,r3 _ ?_⟩
     ·unfold bd at*;dsimp only;refine⟨by omega,by split<;>omega,by omega,by omega⟩
     ·simp only[EX,aZ,d0,ix,jU,ud,uc,vA,An,z0,cn,t,m1,m2];rfl
    |false=>
     refine⟨(y.2.1+y.2.2.2.1 * s.1,(if y.2.2.2.2+s.2.1>y.2.2.1 then y.2.2.2.2+s.2.1 else y.2.2.1),y.2.2.2.1 * s.2.2.1,0),by unfold VP;rw[if_neg m0,t];rfl,?_,r3 _ ?_⟩
     ·unfold bd at*;dsimp only;refine⟨by omega,by split<;>omega,by omega,by omega⟩
     ·simp only[EX,aZ,d0,ix,jU,ud,uc,vA,An,z0,cn,t,m1,m2];rfl
  obtain⟨s2,u2,b2,e2⟩:=key;have cc:=(bT (fn:=L (k'+2) .k_) [nd (.j6 x ps hs b)] (o:=M7 S) (by simp[ah,bH]) (dY S)).1 _ (eT s2) e2;simp only[List.cons_append,List.nil_append]at cc;refine wi _ s2 (by rw[Pb,es,yl,u2]) b2 ?_ fun s' cw=>?_
  ·rw[dN,Ph,Nat.add_mul,Nat.one_mul]
   have a1:(2 ^ c - 1) * (J5 b * (2 ^ c) ^ (dS b+1))+(J5 b * (2 ^ c) ^ (dS b+1))=J5 b * (2 ^ c) ^ (dS b+1+1):=by
    have sc:(2 ^ c - 1).succ=2 ^ c:=by omega
    rw[← Nat.succ_mul,sc,Nat.pow_succ (2 ^ c) (dS b+1),Nat.mul_comm,Nat.mul_assoc]
   have a2:2 ^ c≤(2 ^ c) ^ (dS b+1+1):=by have:=Nat.pow_le_pow_right q1 (show 1≤dS b+1+1 by omega);rw[Nat.pow_one]at this;exact this
   rw[a1];omega
  ·have i0:∀h,b_ (nd (.j6 x ps hs b)) (.int 0) h=.ok (.str tU) h:=fun h=>by rw[nd];rfl
   simp only[EX,aP,i0,d0,cc,cw]
theorem ow(S:List (List Nat×Sz))(c d k:Nat)(hS:∀x∈S,bd (2 ^ c - 1) x.2)(hc:8 * c+30≤134217728)(hd:d≤6)(ok:∀d',d'<d→Dg S c d')(hk:3 * d+3≤k)(a:PV):
  ∀(b:j8)(X:Nat)(s:Sz)(x3:Option PV),dS b≤d→Qi (S.map (·.1)) b=true→J5 b≤1000000→bd X s→∃y3,bd (X+J5 b * (2 ^ c) ^ (d+1)) (O3 (Oj S) s b)∧
   aJ (G5 3) (bD (F k) (L k)) (d9 b) [some a,some (.ref 0),some (Od s),x3] [M7 S]=.nx [some a,some (.ref 0),some (Od (O3 (Oj S) s b)),y3] [M7 S]
 |.nil,X,s,x3,_,_,_,hs=>⟨x3,by rw[O3];exact jL hs (Nat.le_add_right _ _),by rw[d9,aJ,O3]⟩
 |.cons n r,X,s,x3,dn,us,ct,hs=>by
  rw[dS]at dn;rw[Qi,ab1]at us;rw[J5]at ct;have m1:=Nat.le_max_left (dN n) (dS r);have m2:=Nat.le_max_right (dN n) (dS r);have q1:1≤2 ^ c:=Nat.one_le_two_pow;obtain⟨b1,e1⟩:=yM S c d hS hc hd ok n k (by omega) us.1 (by omega) (by omega);have cc:=(bT (fn:=L k .n_) [nd n] (o:=M7 S) (by simp[ah,bH]) (dY S)).1 _ (eT _) e1;simp only[List.cons_append,List.nil_append]at cc;obtain⟨k',rfl⟩:∃k',k=k'+1:=⟨k - 1,by omega⟩
  obtain⟨b2,e2⟩:=DA k' X _ s (Pb (Oj S) n) hs b1;have cw:∀h,bg (F (k'+1) .D_) [Od s,Od (Pb (Oj S) n)] h=.ok (Od (U3 s (Pb (Oj S) n))) h:=fun h=>aN h rfl e2;have d0:aj [M7 S] (.ref 0)=.ref 0:=rfl;obtain⟨y3,b3,e3⟩:=ow S c d (k'+1) hS hc hd ok hk a r _ (U3 s (Pb (Oj S) n)) (some (nd n)) (by omega) us.2 (by omega) b2;rw[O3];refine⟨y3,jL b3 ?_,?_⟩
  ·have h9:(Ph n+1) * (2 ^ c) ^ (dN n+1)≤(Ph n+1) * (2 ^ c) ^ (d+1):=Eu (ab2 _) q1 (by omega);rw[J5,Nat.add_mul (Ph n+1) (J5 r),← Nat.add_assoc];exact Nat.add_le_add_right (Nat.add_le_add_left h9 _) _
  ·have one:bD (F (k'+1)) (L (k'+1)) [some a,some (.ref 0),some (Od s),some (nd n)] [M7 S]=.nx [some a,some (.ref 0),some (Od (U3 s (Pb (Oj S) n))),some (nd n)] [M7 S]:=by simp only[EX,bD,jU,d0,cc,cw]
   rw[d9];exact Eq.trans (dD rfl one) e3
theorem GE(S:List (List Nat×Sz))(c:Nat)(hS:∀x∈S,bd (2 ^ c - 1) x.2)(hc:8 * c+30≤134217728):∀d,d≤6→Dg S c d:=by
 intro d
 induction d using Nat.strongRecOn with
 |ind d ih=>
  intro hd b k db us ct hk;obtain⟨k',rfl⟩:∃k',k=k'+1:=⟨k - 1,by omega⟩
  obtain⟨y3,bs,e⟩:=ow S c (dS b) k' hS hc (by omega) (fun d' h=>ih d' (by omega) (by omega)) (by omega) (.tup (d9 b)) b 0 (0,0,0,0) none (ab2 _) us ct (by unfold bd;dsimp only;omega);refine⟨by rw[Nat.zero_add]at bs;exact bs,?_⟩;have r2:L (k'+1) .g_ [.tup (d9 b),.ref 0] [M7 S]=match dH (F k') (L k') [some (.tup (d9 b)),some (.ref 0),none,none] [M7 S]with|.nx _ h1=>fQ 1 .non h1|.rt v h1=>dq 1 v h1|_=>.bad:=rfl
  have fo:fS aa7 (G5 3) (bD (F k') (L k')) [some (.tup (d9 b)),some (.ref 0),some (Od (0,0,0,0)),none] [M7 S]=aJ (G5 3) (bD (F k') (L k')) (d9 b) [some (.tup (d9 b)),some (.ref 0),some (Od (0,0,0,0)),none] [M7 S]:=rfl;have s0:aI 2 (cK (.tup kb)) [some (.tup (d9 b)),some (.ref 0),none,none] [M7 S]=.nx [some (.tup (d9 b)),some (.ref 0),some (Od (0,0,0,0)),none] [M7 S]:=rfl;rw[r2];unfold dH;rw[cC,s0];dsimp only;rw[cC,fo,e];simp only[EX,jU];exact uP (eT _) (dY S)
mutual
theorem HX(E:List Pc)(m:Option Int)(w:List Int)(ns:List (List Nat)):∀n:Nd,Qn E m ns n=false→Sg E m w ns n=none→Qo (E.map (·.n)) n=true
 |.loop n _ b _,_,h=>by rw[Sg]at h;rw[Qo];exact ky E m _ _ _ b h
 |.choice _ y n,_,h=>by rw[Sg,Option.or_eq_none_iff]at h;rw[Qo,ky E m _ _ _ y h.1,ky E m _ _ _ n h.2];rfl
 |.j6 x ps hh b,e,h=>by
  rw[Sg]at h;rw[Qo,ky E m _ _ _ b h,← jn];rw[Qn,Bool.or_eq_false_iff]at e
  cases l:look E x with
  |none=>rw[l]at e;exact absurd e.2 (by simp)
  |some q=>rfl
 |.use x ps,e,_=>by
  rw[Qo,← jn];rw[Qn,Bool.or_eq_false_iff]at e
  cases l:look E x with
  |none=>rw[l]at e;exact absurd e.2 (by simp)
  |some q=>rfl
 |.text _,_,_=>rfl
 |.place _ _,_,_=>rfl
 |.body _,_,_=>rfl
theorem ky(E:List Pc)(m:Option Int)(w:List Int)(k:Nat)(ns:List (List Nat)):∀b:j8,QJ E m w k ns b=none→Qi (E.map (·.n)) b=true
 |.nil,_=>rfl
 |.cons n r,h=>by
  rw[QJ]at h
  cases e:Qn E m ns n with
  |true=>rw[e,if_pos rfl]at h;cases h
  |false=>rw[e,if_neg (by decide),Option.or_eq_none_iff]at h;rw[Qi,HX E m _ _ n e h.1,ky E m _ _ _ r h.2];rfl
end
noncomputable def cB:Nat→Nat
 |0=>0
 |j+1=>7 * cB j+21
theorem FZ{i j:Nat}(h:i≤j):cB i≤cB j:=by
 induction h with
 |refl=>exact ab2 _
 |step _ ih=>rw[cB];omega
theorem nN{B:List Pc}{q:Pc}(h:List PO):b_ (bk (B++ [q])) (.int (-1)) h=.ok (pc q) h:=by
 show(match O8 ((B++ [q]).map pc) (-1)with|some v=>Res.ok (aj h v) h|none=>Res.bad)=_;have:O8 ((B++ [q]).map pc) (-1)=some (pc q):=by rw[List.map_append];exact vg _ _
 rw[this];rfl
def bS(S:List (List Nat×Sz)):List Pc→List (List Nat×Sz)
 |[]=>S
 |q::r=>bS (S++ [(q.n,O3 (Oj S) (0,0,0,0) q.b)]) r
theorem oy(k:Nat)(hk:22≤k)(a:PV)(len:Nat):∀(r E:List Pc)(S:List (List Nat×Sz))(x2 x3:Option PV),E.length+r.length≤8→S.map (·.1)=E.map (·.n)→(∀x∈S,bd (2 ^ cB E.length - 1) x.2)→(∀q∈r,dS q.b≤6∧J5 q.b≤1000000)→Tf len E r=none→
  ∃y2,(bS S r).map (·.1)=(E++r).map (·.n)∧aJ (G5 2) (fZ (F k) (L k)) (r.map pc) [some a,some (.ref 0),x2,x3] [M7 S]=.nx [some a,some (.ref 0),y2,x3] [M7 (bS S r)]
 |[],E,S,x2,x3,_,hn,_,_,_=>⟨x2,by rw[List.append_nil,bS];exact hn,by rw[List.map_nil,aJ,bS]⟩
 |q::r,E,S,x2,x3,hl,hn,hS,hr,hf=>by
  rw[List.length_cons]at hl;have c7:cB E.length≤cB 7:=FZ (by omega);have c8:cB 7=2882397:=by decide
  rw[Tf]at hf
  split at hf
  ·cases hf
  ·rename_i nc;rw[Option.or_eq_none_iff]at hf;have us:=ky E q.m _ _ _ q.b hf.1;rw[← hn]at us;obtain⟨hd,Zj⟩:=hr q List.mem_cons_self;obtain⟨bs,e⟩:=GE S (cB E.length) hS (by omega) (dS q.b) hd q.b k (ab2 _) us Zj (by omega);rw[bS];generalize O3 (Oj S) (0,0,0,0) q.b=s at bs e ⊢;have cc:=(bT (fn:=L k .g_) [.tup (d9 q.b)] (o:=M7 S) (by simp[ah,PV.pure,aV]) (dY S)).1 _ (eT s) e;simp only[List.cons_append,List.nil_append]at cc;have d0:aj [M7 S] (.ref 0)=.ref 0:=rfl
   have nin:(S.map (·.1)).contains q.n=false:=by
    rw[hn]
    cases z:(E.map (·.n)).contains q.n with
    |false=>rfl
    |true=>rw[z]at nc;exact absurd rfl nc
   have pu:kY (S.map fun x=>(Sum.inr x.1,Od x.2)) (.inr q.n) (Od s)=(S++ [(q.n,s)]).map fun x=>(Sum.inr x.1,Od x.2):=by
    have an:((S.map fun x=>((Sum.inr x.1:Int ⊕ List Nat),Od x.2)).any fun kv=>decide (kv.1=.inr q.n))=false:=by
     rw[List.any_eq_false];intro kv hkv;obtain⟨p,hp,rfl⟩:=List.mem_map.mp hkv;intro z;have ee:p.1=q.n:=Sum.inr.inj (of_decide_eq_true z);have:(S.map (·.1)).contains q.n=true:=by rw[List.contains_iff_mem,← ee];exact List.mem_map.mpr ⟨p,hp,rfl⟩
     rw[nin]at this;cases this
    unfold kY;rw[an,if_neg (by decide),List.map_append];rfl
   have lS:S.length≤8:=by have:=congrArg List.length hn;rw[List.length_map,List.length_map]at this;omega
   have one:fZ (F k) (L k) [some a,some (.ref 0),some (pc q),x3] [M7 S]=.nx [some a,some (.ref 0),some (pc q),x3] [M7 (S++ [(q.n,s)])]:=by
    have sz:(S.map fun x=>((Sum.inr x.1:Int ⊕ List Nat),Od x.2)).length<16777216:=by rw[List.length_map];omega
    simp only[EX,fZ,d0,cc];simp only[EX,M7,sz,pu]
   have bs':bd (2 ^ cB (E.length+1) - 1) s:=jL bs (by
    have h1:J5 q.b * (2 ^ cB E.length) ^ (dS q.b+1)≤1000000 * (2 ^ cB E.length) ^ 7:=Eu Zj Nat.one_le_two_pow (by omega)
    have h2:2 ^ cB (E.length+1)=(2 ^ cB E.length) ^ 7 * 2097152:=by show 2 ^ (7 * cB E.length+21)=_;rw[Nat.pow_add,Nat.mul_comm 7,Nat.pow_mul]
    have h3:1≤(2 ^ cB E.length) ^ 7:=Nat.pow_pos Nat.one_le_two_pow;omega)
   have l1:(E++ [q]).length=E.length+1:=by simp
   obtain⟨y2,g1,g2⟩:=oy k hk a len r (E++ [q]) (S++ [(q.n,s)]) (some (pc q)) x3 (by rw[l1];omega) (by rw[List.map_append,List.map_append,hn];rfl) (fun x hx=>by
    rw[l1];rcases List.mem_append.mp hx with h|h
    ·exact jL (hS x h) (Nat.sub_le_sub_right (Nat.pow_le_pow_right (by decide) (FZ (Nat.le_succ _))) _)
    ·cases List.mem_singleton.mp h;exact bs') (fun z hz=>hr z (List.mem_cons_of_mem _ hz)) hf.2
   refine⟨y2,by rw[g1];simp,?_⟩;rw[List.map_cons];exact Eq.trans (dD rfl one) g2
theorem ue(k:Nat)(hk:22≤k)(B:List Pc)(q:Pc)(hl:B.length+1≤8)(hr:∀p∈B++ [q],dS p.b≤6∧J5 p.b≤1000000)(hf:Tf (B.length+1) [] (B++ [q])=none):F (k+1) .sized [bk (B++ [q])]=.ok (.tup [.int (Oj (bS [] (B++ [q])) q.n).1,.int (Oj (bS [] (B++ [q])) q.n).2.1]):=by
 obtain⟨y2,g1,g2⟩:=oy k hk (bk (B++ [q])) (B.length+1) (B++ [q]) [] [] none none (by simp;omega) rfl (fun x hx=>by cases hx) hr hf;generalize bS [] (B++ [q])=S at g1 g2 ⊢;obtain⟨z,hz,zl,iz⟩:=wl q.n S (by rw[g1];simp);rw[zl]
 have r2:F (k+1) .sized [bk (B++ [q])]=match nV (F k) (L k) [some (bk (B++ [q])),none,none,none] []with
  |.nx _ _=>.ok .non
  |.rt v h=>di v h
  |_=>.bad:=rfl
 have fo:fS aa7 (G5 2) (fZ (F k) (L k)) [some (bk (B++ [q])),some (.ref 0),none,none] [M7 []]=aJ (G5 2) (fZ (F k) (L k)) ((B++ [q]).map pc) [some (bk (B++ [q])),some (.ref 0),none,none] [M7 []]:=rfl;have s0:aI 1 yr [some (bk (B++ [q])),none,none,none] []=.nx [some (bk (B++ [q])),some (.ref 0),none,none] [M7 []]:=rfl;have d0:aj [M7 S] (.ref 0)=.ref 0:=rfl;rw[r2];unfold nV;rw[cC,s0];dsimp only;rw[cC,fo,g2];simp only[EX,nN,d0,iz,jU,ud,uc];rfl
theorem BU(i n:Nat)(l2:List PV)(h2:ah l2=true):∀(l1:List PV),ah l1=true→S_ (l1++.ref i::l2)=[i]∧Ti n (l1++.ref i::l2)=l1++.ref n::l2∧gP (l1++.ref i::l2)=true
 |[],_=>by
  have e:∀(l:List PV),ah l=true→S_ l= []∧(∀n,Ti n l=l)∧gP l=true:=fun l hl=>by
   induction l with
   |nil=>exact⟨rfl,fun _=>rfl,rfl⟩
   |cons p r ih=>
    rw[ah,ab1]at hl;obtain⟨a,b,c⟩:=ih hl.2;have np:∀i,p≠.ref i:=fun i e=>by have:=hl.1;subst e;simp[PV.pure]at this
    have e:gP (p::r)=(p.pure&&gP r):=by cases p<;>first|rfl|exact(np _ rfl).elim
    refine⟨?_,fun n=>?_,by rw[e,hl.1,c];rfl⟩
    ·cases p<;>first|exact a|exact(np _ rfl).elim
    ·cases p<;>first|exact congrArg _ (b n)|exact(np _ rfl).elim
  obtain⟨a,b,c⟩:=e l2 h2;refine⟨?_,?_,c⟩
  ·show i::S_ l2=_;rw[a]
  ·show PV.ref n::Ti (n+1) l2=_;rw[b];rfl
 |p::r,h=>by
  rw[ah,ab1]at h;obtain⟨a,b,c⟩:=BU i n l2 h2 r h.2;have np:∀i,p≠.ref i:=fun i e=>by have:=h.1;subst e;simp[PV.pure]at this
  have e:gP (p::(r++.ref i::l2))=(p.pure&&gP (r++.ref i::l2)):=by cases p<;>first|rfl|exact(np _ rfl).elim
  rw[List.cons_append];refine⟨?_,?_,by rw[e,h.1,c];rfl⟩
  ·cases p<;>first|exact a|exact(np _ rfl).elim
  ·cases p<;>first|exact congrArg _ b|exact(np _ rfl).elim
theorem dg{fn:List PV→List PO→Res PV}(l1 l2:List PV){h:List PO}{i:Nat}{o o':PO}{v:PV}(h1:ah l1=true)(h2:ah l2=true)(ho:h[i]? =some o)(oo:o.pure=true)(e:fn (l1++.ref 0::l2) [o]=.ok v [o'])(hv:v.pure=true)(V_:o'.pure=true):
  bY fn (l1++.ref i::l2) h=.ok v (h.set i o'):=by
 obtain⟨q1,q2,q3⟩:=BU i 0 l2 h2 l1 h1;have e4:fO h [i]=some [o]:=by simp[fO,ho]
 unfold bY;rw[q1,e4];dsimp only;rw[q3,q2,e];have e5:(true&&bC [o]&&gO [i])=true:=by simp[bC,oo,gO]
 rw[if_pos e5];dsimp only;rw[if_pos ⟨hv,by simp[bC,V_],rfl⟩];rfl
inductive Hd where
 |nil
 |cons (b:j8) (i:Int) (h:Hd)
def hv:Hd→PV
 |.nil=>.non
 |.cons b i h=>.tup [.tup (d9 b),.int i,hv h]
noncomputable def Xc(kn:List (List Nat)):Hd→Bool
 |.nil=>true
 |.cons b _ h=>Qi kn b&&(decide (J5 b≤1000000)&&Xc kn h)
theorem nO:∀h:Hd,(hv h).pure=true
 |.nil=>rfl
 |.cons b i h=>by simp[hv,PV.pure,ah,aV,nO h]
theorem gm(h:List PO)(x:Hd):aj h (hv x)=hv x:=nR (h:=h) (nO x)
abbrev O9(i:Int):PO:=.lst [.int i]
theorem lC(i:Int):(O9 i).pure=true:=rfl
def RL(t:Bool)(B:List Pc):PV:=if t then .tup (B.map pc)else .lst (B.map pc)
theorem pG(t:Bool)(B:List Pc):(RL t B).pure=true:=by cases t<;>(unfold RL;simp only[if_true,Bool.false_eq_true,if_false];rw[PV.pure];exact hG B)
theorem eO(t:Bool)(B:List Pc)(h:List PO):aj h (RL t B)=RL t B:=by cases t<;>rfl
theorem tx(t:Bool)(B:List Pc)(h:List PO):jb (RL t B) h=.ok (B.map pc) h:=by cases t<;>rfl
theorem tu(t:Bool){B:List Pc}{i:Nat}{q:Pc}(e:B[i]? =some q)(h:List PO):b_ (RL t B) (.int i) h=.ok (pc q) h:=by
 cases t with
 |true=>exact FP e h
 |false=>show b_ (.lst (B.map pc)) _ h=_;rw[xZ,dj (v:=pc q) (by omega) (by rw[Int.toNat_natCast,List.getElem?_map,e];rfl)];rfl
noncomputable def zH:Hd→Hd
 |.nil=>.nil
 |.cons b _ h=>.cons b 0 (zH h)
theorem Ez(B:List Pc)(x:List Nat)(us:(B.map (·.n)).contains x=true):∃(i:Nat)(q:Pc),(B.map (·.n)).idxOf x=i∧i<(B.map (·.n)).length∧B[i]? =some q∧look B x=some q:=by
 induction B with
 |nil=>cases us
 |cons p r ih=>
  by_cases e:p.n=x
  ·subst e;exact⟨0,p,by simp,by simp,rfl,by simp[look]⟩
  ·rw[List.map_cons,List.contains_cons,Bool.or_eq_true]at us;rcases us with z|z
   ·exact(e (eq_of_beq z).symm).elim
   ·obtain⟨i,q,a,b,c,d⟩:=ih z;refine⟨i+1,q,?_,by rw[List.map_cons,List.length_cons];omega,by rw[List.getElem?_cons_succ];exact c,?_⟩
    ·rw[List.map_cons,List.idxOf_cons];rw[show(p.n==x)=false from(by simpa using e),← a];rfl
    ·unfold look at d ⊢;rw[List.find?_cons_of_neg (by simpa using e)];exact d
noncomputable def U0:Option (Nat×Nat)→Option (Nat×Nat)
 |none=>none
 |some a=>some (a.1+1,a.2+1)
noncomputable def cR(g:Nd→Option (Nat×Nat)):j8→Option (Nat×Nat)
 |.nil=>some (0,0)
 |.cons n r=>match g n,cR g r with
  |some a,some b=>some (a.1+b.1,max a.2 b.2)
  |_,_=>none
def O_(B:List Pc)(rec:j8→Hd→Option (Nat×Nat))(hd:Hd):Nd→Option (Nat×Nat)
 |.loop _ _ b _=>U0 (rec b hd)
 |.choice _ y z=>U0 (rec (O4 y z) hd)
 |.use x _=>match look B x with
  |none=>none
  |some q=>U0 (rec q.b .nil)
 |.j6 x _ _ b=>match look B x with
  |none=>none
  |some q=>U0 (rec q.b (.cons b 0 hd))
 |.body _=>match hd with
  |.nil=>some (1,1)
  |.cons b _ h=>U0 (rec b h)
 |_=>some (1,1)
def cX(B:List Pc):Nat→j8→Hd→Option (Nat×Nat)
 |0=>fun _ _=>none
 |f+1=>fun b hd=>cR (O_ B (cX B f) hd) b
theorem yq{g h:Nd→Option (Nat×Nat)}(e:∀n r,g n=some r→h n=some r):∀(b:j8)(r:Nat×Nat),cR g b=some r→cR h b=some r
 |.nil,r,z=>z
 |.cons n t,r,z=>by
  rw[cR]at z ⊢
  cases e1:g n with
  |none=>rw[e1]at z;cases z
  |some a=>
   cases e2:cR g t with
   |none=>rw[e1,e2]at z;cases z
   |some b=>rw[e1,e2]at z;rw[e n a e1,yq e t b e2];exact z
theorem iY{a b:Option (Nat×Nat)}(e:∀r,a=some r→b=some r):∀r,U0 a=some r→U0 b=some r:=fun r h=>by
 cases a with
 |none=>cases h
 |some x=>rw[e x rfl];exact h
theorem iP(B:List Pc):∀(f:Nat)(b:j8)(hd:Hd)(r:Nat×Nat),cX B f b hd=some r→cX B (f+1) b hd=some r
 |0,_,_,_,h=>by cases h
 |f+1,b,hd,r,h=>by
  rw[cX]at h ⊢;refine yq (fun n r hn=>?_) b r h
  cases n with
  |loop x p c t=>exact iY (iP B f c hd) r hn
  |choice p y z=>exact iY (iP B f (O4 y z) hd) r hn
  |use x ps=>
   rw[O_]at hn ⊢
   cases e:look B x with
   |none=>rw[e]at hn;cases hn
   |some q=>rw[e]at hn;exact iY (iP B f q.b .nil) r hn
  |j6 x ps hs c=>
   rw[O_]at hn ⊢
   cases e:look B x with
   |none=>rw[e]at hn;cases hn
   |some q=>rw[e]at hn;exact iY (iP B f q.b (.cons c 0 hd)) r hn
  |body ps=>
   cases hd with
   |nil=>exact hn
   |cons c i h2=>exact iY (iP B f c h2) r hn
  |text s=>exact hn
  |place p s=>exact hn
def wU(t:Bool)(B:List Pc)(j:Nat):Prop:=∀(b:j8)(hd:Hd)(i left:Int)(k:Nat),Qi (B.map (·.n)) b=true→J5 b≤1000000→Xc (B.map (·.n)) hd=true→ -1≤left→j+1≤k→
 ∃left',(-1≤left'∧left'≤left∧(0≤left'→∃r,cX B (j+1) b (zH hd)=some r))∧L k .J4 [RL t B,.tup (d9 b),.int i,hv hd,.int (41 - (j:Int)),.ref 0] [O9 left]=.ok .non [O9 left']
theorem yb(h:List PO)(xs:List PV):ei h (.lst xs)=true:=rfl
theorem nU(t:Bool)(B:List Pc)(lB:B.length≤1000)(x:List Nat)(us:(B.map (·.n)).contains x=true):∃(q:Pc)(i':Nat),B[i']? =some q∧look B x=some q∧(∀h,lA (.lst ((B.map (·.n)).map PV.str)) [.str x] h=.ok (.int i') h)∧(B.map pc).length<16777216:=by obtain⟨i,q,a,b,c,d⟩:=Ez B x us;refine⟨q,i,c,d,fun h=>?_,by rw[List.length_map];omega⟩;show(match(some ((B.map (·.n)).map PV.str)).bind cG with|some ls=>if ls.length≤sizeLine∧ls.idxOf x<ls.length then Res.ok (PV.int (ls.idxOf x:Nat)) h else .bad|none=>.bad)=_;rw[Option.bind_some,gA];dsimp only;rw[a,if_pos ⟨by rw[List.length_map];exact Nat.le_trans lB (by decide),b⟩]
theorem yo(B:List Pc)(k:Nat)(ρ:Ev)(h:List PO):bv cJ (iL (F k)) (bX [] ρ) (B.map pc) h=.ok ((B.map (·.n)).map PV.str) h:=by
 rw[List.map_map]
 exact mH pc _ B fun p hp=>by show iL (F k) [some (pc p)] h=_;simp only[EX,iL];rfl
abbrev mE(t:Bool)(B:List Pc)(a:PV)(i:Int)(hd:Hd)(j:Nat)(x6 x7 x8:Option PV):Ev:=[some (RL t B),some a,some (.int i),some (hv hd),some (.int (41 - (j:Int))),some (.ref 0),x6,x7,x8]
theorem CJ(t:Bool)(B:List Pc)(lB:B.length≤1000)(hB:∀q∈B,Qi (B.map (·.n)) q.b=true∧J5 q.b≤1000000)(j k:Nat)(hj:j≤40)(ok:∀j',j'<j→wU t B j')(hk:j≤k)(a:PV)(hd:Hd)(i left:Int)(n:Nd)(x7 x8:Option PV)
    (us:Qo (B.map (·.n)) n=true) (ct:Ph n≤1000000) (ho:Xc (B.map (·.n)) hd=true) (hl: -1≤left):∃left' y7 y8,(-1≤left'∧left'≤left∧(0≤left'→∃r,O_ B (cX B j) (zH hd) n=some r))∧
    (left'= -1∧aU (F k) (L k) (mE t B a i hd j (some (nd n)) x7 x8) [O9 left]=.rt .non [O9 left']∨
     aU (F k) (L k) (mE t B a i hd j (some (nd n)) x7 x8) [O9 left]=.nx (mE t B a i hd j (some (nd n)) y7 y8) [O9 left']):=by
  have Uz:∀m:Int,b_ (.ref 0) (.int 0) [O9 m]=.ok (.int m) [O9 m]:=fun m=>rfl;have d0:∀m:Int,aj [O9 m] (.ref 0)=.ref 0:=fun m=>rfl;have st:∀(v m:Int) ρ,iq (.int v) (.ref 0) (.int 0) ρ [O9 m]=.nx ρ [O9 v]:=fun v m ρ=>rfl
  by_cases c1:left - 1<0
  · have z1:decide (left - 1<0)=true:=decide_eq_true c1
    exact⟨-1,x7,x8,⟨by omega,by omega,fun z=>by omega⟩,.inl ⟨rfl,by simp only[EX,aU,d0,Uz,st,z1]⟩⟩
  have z1:decide (left - 1<0)=false:=decide_eq_false c1
  cases j with
  |zero=>exact⟨-1,x7,x8,⟨by omega,by omega,fun z=>by omega⟩,.inl ⟨rfl,by simp only[EX,aU,d0,Uz,st,z1];rfl⟩⟩
  |succ j=>
    have z2:decide (41 - ((j+1:Nat):Int)>40)=false:=decide_eq_false (by omega);have ad:41 - ((j+1:Nat):Int)+1=41 - (j:Int):=by omega
    have pu:∀(b:j8)(i':Int)(h':Hd),ah [RL t B,.tup (d9 b),.int i',hv h',.int (41 - (j:Int))]=true:=fun b i' h'=>by simp[ah,pG,PV.pure,aV,nO]
    have go:∀(b:j8)(i':Int)(h':Hd),Qi (B.map (·.n)) b=true→J5 b≤1000000→Xc (B.map (·.n)) h'=true→∃left',(-1≤left'∧left'≤left - 1∧(0≤left'→∃r,cX B (j+1) b (zH h')=some r))∧bY (L k .J4) [RL t B,.tup (d9 b),.int i',hv h',.int (41 - (j:Int)),.ref 0] [O9 (left - 1)]=.ok .non [O9 left']:=fun b i' h' u c o=>by obtain⟨l',g1,g2⟩:=ok j (Nat.lt_succ_self _) b h' i' (left - 1) k u c o (by omega) (by omega);exact⟨l',g1,dg (fn:=L k .J4) [RL t B,.tup (d9 b),.int i',hv h',.int (41 - (j:Int))] [] (pu b i' h') rfl rfl (lC _) g2 rfl (lC _)⟩
    have up:∀{b:j8}{h':Hd}{l':Int}{n:Nd},(-1≤l'∧l'≤left - 1∧(0≤l'→∃r,cX B (j+1) b (zH h')=some r))→O_ B (cX B (j+1)) (zH hd) n=U0 (cX B (j+1) b (zH h'))→ -1≤l'∧l'≤left∧(0≤l'→∃r,O_ B (cX B (j+1)) (zH hd) n=some r):=fun g e=>⟨g.1,by have:=g.2.1;omega,fun z=>by obtain⟨r,hr⟩:=g.2.2 z;rw[e,hr];exact⟨_,rfl⟩⟩
    cases n with
    |text s=>exact⟨left - 1,x7,x8,⟨by omega,by omega,fun _=>⟨_,rfl⟩⟩,.inr (by simp only[EX,aU,d0,Uz,st,z1,z2])⟩
    |place p s=>exact⟨left - 1,x7,x8,⟨by omega,by omega,fun _=>⟨_,rfl⟩⟩,.inr (by simp only[EX,aU,d0,Uz,st,z1,z2])⟩
    |loop x p b s=>rw[Qo]at us;rw[Ph]at ct;obtain⟨l',g1,g2⟩:=go b i hd us ct ho;exact⟨l',x7,x8,up g1 rfl,.inr (by simp only[EX,aU,d0,Uz,st,z1,z2,eO,gm,ad,g2])⟩
    |choice p y z=>rw[Qo,ab1]at us;rw[Ph]at ct;obtain⟨l',g1,g2⟩:=go (O4 y z) i hd (by rw[vt,us.1,us.2];rfl) (by rw[pA];exact ct) ho;rw[mD]at g2;have aa:∀h,aB (.tup (d9 y)) (.tup (d9 z)) h=.ok (.tup (d9 y++d9 z)) h:=fun h=>iT _ _ h (by have:=gH y;have:=gH z;exact Nat.le_trans (by omega:_≤1000000) (by decide));exact⟨l',x7,x8,up g1 rfl,.inr (by simp only[EX,aU,d0,Uz,st,z1,z2,eO,gm,aa,ad,g2])⟩
    |body ps=>
      cases hd with
      |nil=>exact⟨left - 1,x7,x8,⟨by omega,by omega,fun _=>⟨_,rfl⟩⟩,.inr (by simp only[EX,aU,d0,Uz,st,z1,z2,hv])⟩
      |cons b i' h'=>
        rw[Xc,ab1,ab1]at ho;obtain⟨l',g1,g2⟩:=go b i' h' ho.1 (of_decide_eq_true ho.2.1) ho.2.2;have e0:∀h,b_ (hv (.cons b i' h')) (.int 0) h=.ok (.tup (d9 b)) h:=fun h=>by rw[hv];rfl
        have e1:∀h,b_ (hv (.cons b i' h')) (.int 1) h=.ok (.int i') h:=fun h=>by rw[hv];rfl
        have e2:∀h,b_ (hv (.cons b i' h')) (.int 2) h=.ok (hv h') h:=fun h=>by rw[hv];show Res.ok (aj h (hv h')) h=_;rw[gm]
        have en:jr (hv (.cons b i' h'))=false:=by rw[hv];rfl
        exact⟨l',x7,x8,up g1 rfl,.inr (by simp only[EX,aU,d0,Uz,st,z1,z2,eO,gm,e0,e1,e2,en,ad,g2])⟩
    |use x ps=>rw[Qo]at us;obtain⟨q,ax,hq,lk,ia,ll⟩:=nU t B lB x us;have cm:=yo B k;obtain⟨l',g1,g2⟩:=go q.b ax .nil (hB q (List.mem_of_getElem? hq)).1 (hB q (List.mem_of_getElem? hq)).2 rfl;have g3:bY (L k .J4) [RL t B,.tup (d9 q.b),.int ax,.non,.int (41 - (j:Int)),.ref 0] [O9 (left - 1)]=.ok .non [O9 l']:=g2;exact⟨l',some (.int ax),some .non,up g1 (by rw[O_,lk];rfl),.inr (by simp only[EX,aU,d0,Uz,st,z1,z2,eO,tx,gm,cm,ll,ia,tu t hq,ad,yb,g3])⟩
    |j6 x ps hs b=>rw[Qo,ab1]at us;rw[Ph]at ct;obtain⟨q,ax,hq,lk,ia,ll⟩:=nU t B lB x us.1;have cm:=yo B k;obtain⟨l',g1,g2⟩:=go q.b ax (.cons b i hd) (hB q (List.mem_of_getElem? hq)).1 (hB q (List.mem_of_getElem? hq)).2 (by rw[Xc,us.2,ho,decide_eq_true ct];rfl);have g3:bY (L k .J4) [RL t B,.tup (d9 q.b),.int ax,.tup [.tup (d9 b),.int i,hv hd],.int (41 - (j:Int)),.ref 0] [O9 (left - 1)]=.ok .non [O9 l']:=g2;have dt:∀h,aj h (.tup [.tup (d9 b),.int i,hv hd])=.tup [.tup (d9 b),.int i,hv hd]:=fun h=>rfl;exact⟨l',some (.int ax),some (.tup [.tup (d9 b),.int i,hv hd]),up g1 (by rw[O_,lk];rfl),.inr (by simp only[EX,aU,d0,Uz,st,z1,z2,eO,tx,gm,cm,ll,ia,tu t hq,ad,yb,dt,g3])⟩
theorem qP(t:Bool)(B:List Pc)(lB:B.length≤1000)(hB:∀q∈B,Qi (B.map (·.n)) q.b=true∧J5 q.b≤1000000)(j k:Nat)(hj:j≤40)(ok:∀j',j'<j→wU t B j')(hk:j≤k)(a:PV)(hd:Hd)(i:Int)(ho:Xc (B.map (·.n)) hd=true):
    ∀(b:j8)(left:Int)(x6 x7 x8:Option PV),Qi (B.map (·.n)) b=true→J5 b≤1000000→ -1≤left→∃left' ρ',(-1≤left'∧left'≤left∧(0≤left'→∃r,cX B (j+1) b (zH hd)=some r))∧
      (aJ (G5 6) (aU (F k) (L k)) (d9 b) (mE t B a i hd j x6 x7 x8) [O9 left]=.rt .non [O9 left']∨
       aJ (G5 6) (aU (F k) (L k)) (d9 b) (mE t B a i hd j x6 x7 x8) [O9 left]=.nx ρ' [O9 left'])
  |.nil,left,x6,x7,x8,_,_,hl=>⟨left,_,⟨hl,Int.le_refl _,fun _=>⟨_,rfl⟩⟩,.inr (by rw[d9,aJ])⟩
  |.cons n r,left,x6,x7,x8,us,ct,hl=>by
    rw[Qi,ab1]at us;rw[J5]at ct;obtain⟨l1,y7,y8,g1,g2⟩:=CJ t B lB hB j k hj ok hk a hd i left n x7 x8 us.1 (by omega) ho hl
    have one:0≤l1→(∃r',cX B (j+1) r (zH hd)=some r')→∃r',cX B (j+1) (.cons n r) (zH hd)=some r':=by intro z hz;obtain⟨r2,h2⟩:=hz;obtain⟨r1,h1⟩:=g1.2.2 z;have e2:cR (O_ B (cX B j) (zH hd)) r=some r2:=h2;show∃r',cR (O_ B (cX B j) (zH hd)) (.cons n r)=some r';rw[cR,h1,e2];exact⟨_,rfl⟩
    obtain⟨l2,ρ2,g3,g4⟩:=qP t B lB hB j k hj ok hk a hd i ho r l1 (some (nd n)) y7 y8 us.2 (by omega) g1.1
    have step:aJ (G5 6) (aU (F k) (L k)) (d9 (.cons n r)) (mE t B a i hd j x6 x7 x8) [O9 left]=
        match aU (F k) (L k) (mE t B a i hd j (some (nd n)) x7 x8) [O9 left]with
        |.nx ρ2 h2=>aJ (G5 6) (aU (F k) (L k)) (d9 r) ρ2 h2
        |.ct ρ2 h2=>aJ (G5 6) (aU (F k) (L k)) (d9 r) ρ2 h2
        |.bk ρ2 h2=>.nx ρ2 h2
        |.rt v h2=>.rt v h2
        |.exc v h2=>.exc v h2
        |.bad=>.bad:=by rw[d9];rfl
    rw[step];rcases g2 with⟨e,g2⟩|g2
    · rw[g2];exact⟨l1,[],⟨g1.1,g1.2.1,fun z=>by omega⟩,.inl rfl⟩
    · rw[g2];exact⟨l2,ρ2,⟨g3.1,by have:=g3.2.1;have:=g1.2.1;omega,fun z=>one (by have:=g3.2.1;omega) (g3.2.2 z)⟩,g4⟩
theorem Fe(t:Bool)(B:List Pc)(lB:B.length≤1000)(hB:∀q∈B,Qi (B.map (·.n)) q.b=true∧J5 q.b≤1000000):∀j,j≤40→wU t B j:=by
 intro j
 induction j using Nat.strongRecOn with
 |ind j ih=>
  intro hj b hd i left k us ct ho hl hk;obtain⟨k',rfl⟩:∃k',k=k'+1:=⟨k - 1,by omega⟩
  obtain⟨l',ρ',g1,g2⟩:=qP t B lB hB j k' hj (fun j' h=>ih j' h (by omega)) (by omega) (.tup (d9 b)) hd i ho b left none none none us ct hl;refine⟨l',g1,?_⟩;have r2:L (k'+1) .J4 [RL t B,.tup (d9 b),.int i,hv hd,.int (41 - (j:Int)),.ref 0] [O9 left]=match aJ (G5 6) (aU (F k') (L k')) (d9 b) (mE t B (.tup (d9 b)) i hd j none none none) [O9 left]with|.nx _ h1=>fQ 1 .non h1|.rt v h1=>dq 1 v h1|_=>.bad:=rfl
  rw[r2];rcases g2 with g2|g2<;>rw[g2]<;>rfl
theorem xR:∀(l:List PV),ah l=true→S_ l= []∧(∀n,Ti n l=l)∧gP l=true
 |[],_=>⟨rfl,fun _=>rfl,rfl⟩
 |p::r,hl=>by
  rw[ah,ab1]at hl;obtain⟨a,b,c⟩:=xR r hl.2;have np:∀i,p≠.ref i:=fun i e=>by have:=hl.1;subst e;simp[PV.pure]at this
  have e:gP (p::r)=(p.pure&&gP r):=by cases p<;>first|rfl|exact(np _ rfl).elim
  refine⟨?_,fun n=>?_,by rw[e,hl.1,c];rfl⟩
  ·cases p<;>first|exact a|exact(np _ rfl).elim
  ·cases p<;>first|exact congrArg _ (b n)|exact(np _ rfl).elim
theorem tj{fn:List PV→List PO→Res PV}(l:List PV)(hl:ah l=true):
  (∀v,v.pure=true→fn l []=.ok v []→bY fn l []=.ok v [])∧(∀v,v.pure=true→fn l []=.exc v []→bY fn l []=.exc v []):=by
 obtain⟨q1,q2,q3⟩:=xR l hl;refine⟨fun v hv e=>?_,fun v hv e=>?_⟩<;>
 ·unfold bY;rw[q1];show(if(gP l&&bC []&&gO [])=true then _ else _)=_;rw[q3,if_pos (by simp[bC,gO]),q2,e];dsimp only;rw[if_pos ⟨hv,rfl,rfl⟩];rfl
theorem Fh(k:Nat)(B:List Pc)(q:Pc)(hk:45≤k)(lB:B.length+1≤8)(hw:∀p∈B++ [q],wC p=true)(hr:∀p∈B++ [q],dS p.b≤6∧J5 p.b≤1000000):
  (∀w,Tf (B.length+1) [] (B++ [q])=some w→X_ (k+1) .h_ [bk (B++ [q])] []=.exc (.Qt 6 (wy w)) [])∧
  (Tf (B.length+1) [] (B++ [q])=none→X_ (k+1) .h_ [bk (B++ [q])] []=if(decide ((Oj (bS [] (B++ [q])) q.n).1>400)||decide ((Oj (bS [] (B++ [q])) q.n).2.1>24))=true then .exc (.cls 3) []else .ok (nms q.ns) []):=by
 obtain⟨k',rfl⟩:∃k',k=k'+1:=⟨k - 1,by omega⟩
 have l1:(B++ [q]).length=B.length+1:=by simp
 have nm:=BQ k' (B++ [q]) (by omega) (by omega) hw;rw[l1]at nm;obtain⟨c1,c2⟩:=tj (fn:=X_ (k'+1) .j7) [bk (B++ [q])] (by rw[ah,dG];rfl)
 have r2:X_ (k'+1+1) .h_ [bk (B++ [q])] []=match cj (F (k'+1)) (X_ (k'+1)) [some (bk (B++ [q])),none] []with
   |.nx _ h1=>fQ 0 .non h1
   |.rt v h1=>dq 0 v h1
   |.exc e h1=>sS 0 e h1
   |_=>.bad:=rfl
 refine⟨fun w hf=>?_,fun hf=>?_⟩
 ·rw[hf]at nm;have wp:(PV.Qt 6 (wy w)).pure=true:=by rw[PV.pure];exact df w
  have cc:=c2 _ wp nm;rw[r2];simp only[EX,cj,cc,Res.Qh];simp[sS,bC,wp]
 ·rw[hf]at nm;have cc:=c1 .non rfl nm;have sz:=ue k' (by omega) B q lB hr hf;generalize(Oj (bS [] (B++ [q])) q.n).1=x at sz ⊢;generalize(Oj (bS [] (B++ [q])) q.n).2.1=y at sz ⊢;have cs:∀h,bg (F (k'+1) .sized) [bk (B++ [q])] h=.ok (.tup [.int x,.int y]) h:=fun h=>aN h (by rw[ah,dG];rfl) sz;rw[r2]
  cases e:decide (x>400)||decide (y>24)with
  |true=>
   rw[if_pos rfl]
   cases e1:decide (x>400)with
   |true=>simp only[EX,cj,cc,cs,e1];rfl
   |false=>rw[e1,Bool.false_or]at e;simp only[EX,cj,cc,cs,e1,e];rfl
  |false=>
   rw[if_neg (by decide)];rw[Bool.or_eq_false_iff]at e
   have fi:dq 0 (nms q.ns) []=.ok (nms q.ns) []:=by unfold dq;rw[hR _ (bh _)];rfl
   simp only[EX,cj,cc,cs,e.1,e.2,nN,fi]
theorem oz(f:Nat→List Nat):∀(n:Nat)(x:List Nat),x∈bM f n↔∃i,i<n∧f i=x
 |0,x=>by simp[bM]
 |n+1,x=>by
  rw[bM,uG,oz f n x];constructor
  ·rintro(⟨i,h,e⟩|e)
   ·exact⟨i,by omega,e⟩
   ·exact⟨n,by omega,e.symm⟩
  ·rintro⟨i,h,e⟩
   rcases Nat.lt_or_ge i n with q|q
   ·exact .inl ⟨i,q,e⟩
   ·have:i=n:=by omega
    subst this;exact .inr e.symm
theorem rD(f:Nat→List Nat):∀n,(bM f n).length≤n
 |0=>ab2 _
 |n+1=>by
  have:=rD f n;rw[bM,nB]
  split
  ·omega
  ·rw[List.length_append,List.length_singleton];omega
theorem xo(f:Nat→List Nat):∀n,(bM f n).length=n↔∀i j,i<j→j<n→f i≠f j
 |0=>⟨fun _ i j _ h=>(by omega),fun _=>rfl⟩
 |n+1=>by
  have le:=rD f n;have ih:=xo f n;rw[bM,nB]
  split
  ·rename_i hm;obtain⟨i,hi,e⟩:=(oz f n _).mp hm;exact⟨fun z=>by omega,fun z=>(z i n hi (by omega) e).elim⟩
  ·rename_i hm;rw[List.length_append,List.length_singleton];constructor
   ·intro z i j W7 hj e;rcases Nat.lt_or_ge j n with q|q
    ·exact ih.mp (by omega) i j W7 q e
    ·have:j=n:=by omega
     subst this;exact hm ((oz f j _).mpr ⟨i,W7,e⟩)
   ·intro z;have:=ih.mpr fun i j h g=>z i j h (by omega);omega
theorem wD(l:List (List Nat)):dup l=false↔l.Nodup:=by
 have h:=xo (fun i=>l.getD i []) l.length;have le:=rD (fun i=>l.getD i []) l.length;unfold dup mY;rw[decide_eq_false_iff_not];constructor
 ·intro z;have:=h.mp (by omega);rw[List.Nodup,List.pairwise_iff_getElem];intro i j hi hj W7;have:=this i j W7 hj;simpa[List.getD_eq_getElem?_getD,hi,hj]using this
 ·intro z
  have:∀i j,i<j→j<l.length→l.getD i []≠l.getD j []:=fun i j W7 hj=>by
   rw[List.Nodup,List.pairwise_iff_getElem]at z;have hi:i<l.length:=by omega
   have:=z i j hi hj W7;simpa[List.getD_eq_getElem?_getD,hi,hj]using this
  have:=h.mpr this;omega
structure Pe where
 n:List Nat
 m:Nat
 h:Option Int
noncomputable def Tj(q:Pc):Pe:=⟨q.n,q.ns.length,q.m⟩
noncomputable def Vz(P:List Pe)(x:List Nat):Option Pe:=P.find? fun p=>p.n==x
def Vf(P:List Pe)(x:List Nat)(l:Nat)(h:Option Int):Bool:=match Vz P x with
 |none=>false
 |some p=>decide (p.m=l)&&decide (p.h=h)
abbrev Cx:=List Pe×Option Int×List (List Nat)
noncomputable def Tn(X:Cx)(ps:List Ou):Bool:=ps.all fun p=>X.2.2.contains p.a
abbrev Xo(X:Cx)(h:List (List Nat)):Cx:=(X.1,X.2.1,X.2.2++h)
mutual
def okN(X:Cx):Nd→Bool
 |.text _=>true
 |.place p _=>Tn X [p]
 |.loop x p b _=>Tn X [p]&&Pz (Xo X [x]) b
 |.choice p y z=>Tn X [p]&&(Pz X y&&Pz X z)
 |.use x ps=>Tn X ps&&Vf X.1 x ps.length none
 |.j6 x ps h b=>Tn X ps&&(Vf X.1 x ps.length (some (h.length:Int))&&(!dup h&&Pz (Xo X h) b))
 |.body ps=>Tn X ps&&decide (X.2.1=some (ps.length:Int))
def Pz(X:Cx):j8→Bool
 |.nil=>true
 |.cons n r=>okN X n&&Pz X r
end
theorem xX(x:List Nat):∀E:List Pc,Vz (E.map Tj) x=(look E x).map Tj
 |[]=>rfl
 |q::r=>by
  have ih:=xX x r;unfold Vz look at*;rw[List.map_cons,List.find?_cons,List.find?_cons,ih];show(match q.n==x with|true=>_|false=>_)=_
  cases q.n==x<;>rfl
theorem nL{X:Cx}{ps:List Ou}(h:Tn X ps=true):ps.any (out X.2.2)=false:=by rw[List.any_eq_false];intro p hp;have:=List.all_eq_true.mp h p hp;unfold out;rw[this];decide
theorem sj{X:Cx}{p:Ou}(h:Tn X [p]=true):out X.2.2 p=false:=by have:=nL h;simpa using this
theorem uB{E:List Pc}{x:List Nat}{l:Nat}{h:Option Int}(e:Vf (E.map Tj) x l h=true):∃q,look E x=some q∧q.ns.length=l∧q.m=h:=by
 unfold Vf at e;rw[xX]at e
 cases z:look E x with
 |none=>rw[z]at e;cases e
 |some q=>rw[z]at e;simp only[Option.map_some,ab1,decide_eq_true_eq]at e;exact⟨q,rfl,e.1,e.2⟩
mutual
theorem HY(E:List Pc)(m:Option Int)(w:List Int)(ns:List (List Nat)):∀n:Nd,okN (E.map Tj,m,ns) n=true→Qn E m ns n=false∧Sg E m w ns n=none
 |.loop x p b t,h=>by rw[okN,ab1]at h;exact⟨by rw[Qn];exact sj h.1,by rw[Sg];exact mJ E m w 0 _ b h.2⟩
 |.choice p y z,h=>by rw[okN,ab1,ab1]at h;exact⟨by rw[Qn];exact sj h.1,by rw[Sg,mJ E m _ 0 _ y h.2.1,mJ E m _ 0 _ z h.2.2];rfl⟩
 |.use x ps,h=>by rw[okN,ab1]at h;obtain⟨q,q1,q2,q3⟩:=uB h.2;refine⟨?_,rfl⟩;rw[Qn,nL h.1,q1];show Tc ps q none=false;simp[Tc,q2,q3]
 |.j6 x ps hs b,h=>by
  rw[okN,ab1,ab1,ab1]at h;obtain⟨q,q1,q2,q3⟩:=uB h.2.1;refine⟨?_,by rw[Sg];exact mJ E m w 0 _ b h.2.2.2⟩;have dd:dup hs=false:=by have:=h.2.2.1;simpa using this
  rw[Qn,nL h.1,q1];show Tc ps q (some hs)=false;simp[Tc,q2,q3,dd]
 |.body ps,h=>by rw[okN,ab1,decide_eq_true_eq]at h;refine⟨?_,rfl⟩;have hm:m=some (ps.length:Int):=h.2;have ha:ps.any (out ns)=false:=nL h.1;subst hm;show(ps.any (out ns)||(ps.length:Int) !=(ps.length:Int))=false;rw[ha];simp
 |.text _,_=>⟨rfl,rfl⟩
 |.place p s,h=>by rw[okN]at h;exact⟨by rw[Qn];exact sj h,rfl⟩
theorem mJ(E:List Pc)(m:Option Int)(w:List Int)(k:Nat)(ns:List (List Nat)):∀b:j8,Pz (E.map Tj,m,ns) b=true→QJ E m w k ns b=none
 |.nil,_=>rfl
 |.cons n r,h=>by rw[Pz,ab1]at h;obtain⟨a,c⟩:=HY E m (w++ [(k:Int)]) ns n h.1;rw[QJ,a,if_neg (by decide),c,mJ E m w (k+1) ns r h.2];rfl
end
theorem xL{P:List Pe}{x:List Nat}{l:Nat}{h:Option Int}(e:Vf P x l h=true):(P.map (·.n)).contains x=true:=by
 unfold Vf at e
 cases z:Vz P x with
 |none=>rw[z]at e;cases e
 |some p=>rw[List.contains_iff_mem];have:=List.find?_some z;rw[← eq_of_beq this];exact List.mem_map.mpr ⟨p,List.mem_of_find?_eq_some z,rfl⟩
mutual
theorem HD(X:Cx):∀n:Nd,okN X n=true→Qo (X.1.map (·.n)) n=true
 |.loop x p b t,h=>by rw[okN,ab1]at h;rw[Qo];exact ko (Xo X [x]) b h.2
 |.choice p y z,h=>by rw[okN,ab1,ab1]at h;rw[Qo,ko X y h.2.1,ko X z h.2.2];rfl
 |.use x ps,h=>by rw[okN,ab1]at h;rw[Qo];exact xL h.2
 |.j6 x ps hs b,h=>by rw[okN,ab1,ab1,ab1]at h;rw[Qo,xL h.2.1];exact ko (Xo X hs) b h.2.2.2
 |.body _,_=>rfl
 |.text _,_=>rfl
 |.place _ _,_=>rfl
theorem ko(X:Cx):∀b:j8,Pz X b=true→Qi (X.1.map (·.n)) b=true
 |.nil,_=>rfl
 |.cons n r,h=>by rw[Pz,ab1]at h;rw[Qi,HD X n h.1,ko X r h.2];rfl
end
def Ur:List Pc→List Pc→Bool
 |_,[]=>true
 |E,q::r=>!(E.map (·.n)).contains q.n&&(!dup q.ns&&(Pz (E.map Tj,q.m,q.ns) q.b&&Ur (E++ [q]) r))
theorem uC(q:Pc):∀(r E:List Pc),Ur E r=true→q.n∉(E++r).map (·.n)→dup q.ns=false→Pz ((E++r).map Tj,q.m,q.ns) q.b=true→Ur E (r++ [q])=true
 |[],E,_,h1,h2,h3=>by
  rw[List.append_nil]at h1 h3
  have e:(E.map (·.n)).contains q.n=false:=by
   cases z:(E.map (·.n)).contains q.n with
   |false=>rfl
   |true=>exact(h1 (List.contains_iff_mem.mp z)).elim
  rw[List.nil_append,Ur,e,h2,h3,Ur];rfl
 |p::r,E,h,h1,h2,h3=>by rw[Ur,ab1,ab1,ab1]at h;rw[List.cons_append,Ur,h.1,h.2.1,h.2.2.1];rw[show E++p::r=E++ [p]++r by simp]at h1 h3;exact uC q r (E++ [p]) h.2.2.2 h1 h2 h3
theorem ww(len:Nat):∀(r E:List Pc),Ur E r=true→E.length+r.length=len→(∀C q,r=C++ [q]→q.m=none)→Tf len E r=none
 |[],_,_,_,_=>rfl
 |q::r,E,h,hl,hm=>by
  rw[Ur,ab1,ab1,ab1]at h;rw[List.length_cons]at hl;have e1:(E.map (·.n)).contains q.n=false:=by simpa using h.1
  have e2:dup q.ns=false:=by simpa using h.2.1
  have e3:(decide (E.length+1=len)&&q.m.isSome)=false:=by
   cases r with
   |nil=>rw[hm [] q rfl];simp
   |cons a t=>rw[decide_eq_false (by rw[List.length_cons]at hl;omega)];rfl
  rw[Tf,e1,e2,e3,if_neg (by decide),mJ E q.m _ 0 q.ns q.b h.2.2.1,ww len r (E++ [q]) h.2.2.2 (by rw[List.length_append,List.length_singleton];omega) fun C p e=>hm (q::C) p (by rw[e];rfl)];rfl
theorem vE{l m:List Nat}(h:sg l=true)(hm:∀c∈m,c∈l):sg m=true:=List.all_eq_true.mpr fun c hc=>List.all_eq_true.mp h c (hm c hc)
theorem jJ{α:Type}{l:List α}{a b:Option Int}{x:α}(h:x∈cut l a b):x∈l:=by unfold cut at h;exact List.mem_of_mem_drop (List.mem_of_mem_take h)
theorem GH{l:List Nat}(h:sg l=true)(a b:Option Int):sg (cut l a b)=true:=vE h fun _ hc=>jJ hc
theorem GI{a b:List Nat}(ha:sg a=true)(hb:sg b=true):sg (a++b)=true:=by unfold sg at*;rw[List.all_append,ha,hb];rfl
theorem jK{α:Type}(l:List α)(a b:Option Int):(cut l a b).length≤l.length:=by unfold cut;rw[List.length_take,List.length_drop];omega
theorem lN{α β:Type}(f:α→β)(l:List α)(a b:Option Int):cut (l.map f) a b=(cut l a b).map f:=by unfold cut;rw[List.length_map,List.map_take,List.map_drop]
theorem As{l:List (List Nat)}(h:Oq l=true):sg l.flatten=true:=List.all_eq_true.mpr fun c hc=>by obtain⟨x,hx,hc⟩:=List.mem_flatten.mp hc;exact List.all_eq_true.mp (List.all_eq_true.mp h x hx) c hc
theorem rB{l m:List (List Nat)}(h:Oq l=true)(hm:∀c∈m,c∈l):Oq m=true:=List.all_eq_true.mpr fun c hc=>List.all_eq_true.mp h c (hm c hc)
theorem Gu{l:List (List Nat)}(h:∀x∈l,x.length≤1):(l.map (fun l=>l.length)).sum≤l.length:=by
 induction l with
 |nil=>exact ab2 _
 |cons a r ih=>have:=ih fun x hx=>h x (List.mem_cons_of_mem _ hx);have:=h a List.mem_cons_self;simp only[List.map_cons,List.sum_cons,List.length_cons];omega
def YD(i:Int):Nat:=bq.getD (i % 26).toNat 0
theorem wL:bq.length=26:=by decide
theorem CW(i:Int):O8 bq (i % 26)=some (YD i):=CY 0 (Int.emod_nonneg _ (by decide)) (by rw[wL];exact Int.emod_lt_of_pos _ (by decide))
theorem Il(i:Int):sg [YD i]=true:=by have h0:=Int.emod_nonneg i (by decide:(26:Int)≠0);have h1:=Int.emod_lt_of_pos i (by decide:(0:Int)<26);exact vE (l:=bq) (by decide) fun c hc=>by rw[List.mem_singleton.mp hc];exact gp (by rw[wL];omega)
def w8(W:List (List Nat)):Prop:=W.length=8∧Oq W=true∧∀x∈W,x.length≤1
theorem qZ{W V:List (List Nat)}(h:w8 W)(hm:∀x∈V,x∈W)(hl:V.length≤100)(hp:List PO):sg V.flatten=true∧V.flatten.length≤100∧lv (.str []) [.lst (V.map PV.str)] hp=.ok (.str V.flatten) hp:=by have s:=Gu fun x hx=>h.2.2 x (hm x hx);exact⟨As (rB h.2.1 hm),by rw[List.length_flatten];exact Nat.le_trans s hl,Eh (by omega)⟩
theorem nY(a b:List PV)(h:List PO)(q:a.length+b.length≤16777216):aB (.lst a) (.lst b) h=.ok (.lst (a++b)) h:=by show vU (.lst a) (.lst b) h=_;rw[Ip,if_pos (Nat.le_trans q (by decide))]
noncomputable def S6:List (List Nat):=[[102,105,114,115,116],[115,101,99,111,110,100],[116,104,105,114,100],[102,111,117,114,116,104],[102,105,102,116,104],[115,105,120,116,104],[115,101,118,101,110,116,104],[101,105,103,104,116,104]]
def wB(b:Nat):List Nat:=(List.range 8).map fun i=>bq.getD ((b+5 * i) % 26) 0
noncomputable def Vb(l:List Nat):List (List Nat):=l.map fun c=> [c]
theorem kS(l:List Nat):(Vb l).flatten=l:=by
 induction l with
 |nil=>rfl
 |cons a r ih=>unfold Vb at*;rw[List.map_cons,List.flatten_cons,ih];rfl
theorem nT(l:List Nat)(a b:Option Int):cut (Vb l) a b=Vb (cut l a b):=lN _ l a b
theorem nw0:((List.range 26).all fun b=>(List.range 8).all fun e=>!S6.contains (cut (wB b) none (some (1+(e:Int)))))=true:=by kernel_rfl
theorem nw1:((List.range 26).all fun b=>(List.range 8).all fun a=>(List.range 9).all fun z=>S6.all fun w=>!decide ((cut (wB b) none (some (z:Int))).set a 0=w.set a 0))=true:=by kernel_rfl
theorem nw2:((List.range 26).all fun b=>(List.range 12).all fun j=>!S6.contains (cut (cut (wB b) (some ((j:Int) % 8)) none++cut (wB b) none (some ((j:Int) % 8))) none (some (8 - (j:Int) / 8))))=true:=by kernel_rfl
def Vg(l:List Nat):Prop:=l∉S6
theorem BK{l:List Nat}(h:(!S6.contains l)=true):Vg l:=fun z=>by rw[← List.contains_iff_mem]at z;rw[z]at h;cases h
theorem Fd(l:List Nat)(a:Nat)(s:Nat)(z:Option Int):(cut (l.set a s) none z).set a 0=(cut l none z).set a 0:=by unfold cut;rw[List.length_set,HT.R6,List.drop_zero,List.drop_zero,List.take_set,List.set_set]
theorem iu{n:Nat}{f:Nat→Bool}(h:(List.range n).all f=true){i:Nat}(hi:i<n):f i=true:=List.all_eq_true.mp h i (List.mem_range.mpr hi)
noncomputable def bB(n j:Int):Nat:=((n / 192+3 * (j / 8) * (if decide (n % 3=0)=true then 1 else 0)) % 26).toNat
theorem Kf(n j:Int):bB n j<26:=by unfold bB;omega
theorem IE(b:Nat):w8 (Vb (wB b)):=by
 refine⟨by simp[Vb,wB],List.all_eq_true.mpr fun x hx=>?_,fun x hx=>?_⟩
 ·obtain⟨c,hc,rfl⟩:=List.mem_map.mp hx;obtain⟨i,_,rfl⟩:=List.mem_map.mp hc;exact vE (l:=bq) (by decide) fun c hc=>by rw[List.mem_singleton.mp hc];exact gp (by rw[wL];omega)
 ·obtain⟨c,hc,rfl⟩:=List.mem_map.mp hx;exact ab2 _
theorem zo(k:Nat)(n:Int)(ρ:Ev)(j:Int)(hc:bX [1,0,5] ρ=[some (.str bq),some (.int n),some (.int j)])(h:List PO):bv cJ (jv (F k)) (bX [1,0,5] ρ) ((List.range (Int.toNat 8)).map fun i=>PV.int (0+(i:Nat))) h=.ok ((Vb (wB (bB n j))).map PV.str) h:=by
 unfold Vb wB;rw[hc,List.map_map,List.map_map];refine mH (fun i=>PV.int (0+(i:Nat))) _ (List.range 8) fun i _=>?_;have mi:∀x:Int,hJ x (if decide (n % 3=0)=true then 1 else 0)=true:=fun x=>sw (by split<;>decide);have az:=CW (n / 192+5 * (0+(i:Int))+3 * (j / 8) * (if decide (n % 3=0)=true then 1 else 0))
 have ee:YD (n / 192+5 * (0+(i:Int))+3 * (j / 8) * (if decide (n % 3=0)=true then 1 else 0))=bq.getD ((bB n j+5 * i) % 26) 0:=by
  unfold YD bB;generalize 3 * (j / 8) * (if decide (n % 3=0)=true then 1 else 0)=z
  congr 1
  omega
 rw[ee]at az;have zl:bq.length≤16777216:=by decide
 simp only[EX,jv,mi,az,zl];rfl
theorem zp(k:Nat)(n sz ax:Int)(hs:0≤sz∧sz≤8)(ha:0≤ax∧ax<8)(j:Nat)(hj:j<12)(x6 x7:Option PV)(acc:List (List Nat))(la:acc.length<16777216)(rest:List PO):∃l Vd y6,(sg l=true∧Vg l)∧
  cQ (F k) [some (.int n),some (.str bq),some (.int sz),some (.int ax),some (.ref 0),some (.int (0+(j:Nat))),x6,x7] (.lst (acc.map PV.str)::rest)=.nx [some (.int n),some (.str bq),some (.int sz),some (.int ax),some (.ref 0),some (.int (0+(j:Nat))),y6,x7] (.lst ((acc++ [l]).map PV.str)::Vd):=by
 have cm:=zo k n [some (.int n),some (.str bq),some (.int sz),some (.int ax),some (.ref 0),some (.int (0+(j:Nat))),x6,x7] (0+(j:Nat)) rfl;have hb:=Kf n (0+(j:Nat));generalize bB n (0+(j:Nat))=b at cm hb;have hW:=IE b;obtain⟨W,eW⟩:∃W,Vb (wB b)=W:=⟨_,rfl⟩
 rw[eW]at cm hW;have b8:RM 4611686018427387904 8=true:=rfl;have ln:((List.range (Int.toNat 8)).map fun i=>PV.int (0+(i:Nat))).length<16777216:=by decide
 have nl:∀(xs:List PV)(o:PO),Er xs (o::rest)=.ok (.ref (rest.length+1)) (o::(rest++ [.lst xs])):=fun _ _=>rfl;have d0:∀(xs:List PV) r,aj (.lst xs::r) (.ref 0)=.ref 0:=fun xs r=>rfl;have dW:∀(xs ys:List PV),aj (.lst xs::(rest++ [.lst ys])) (.ref (rest.length+1))=.ref (rest.length+1):=fun xs ys=>Fa (acc:=ys) (by simp)
 have sW:∀(xs:List PV)(V:List (List Nat)) lo hi,lg (.ref (rest.length+1)) lo hi (.lst xs::(rest++ [.lst (V.map PV.str)]))=.ok (.lst ((cut V lo hi).map PV.str)) (.lst xs::(rest++ [.lst (V.map PV.str)])):=fun xs V lo hi=>by
  show(match Tw (.lst xs::(rest++ [.lst (V.map PV.str)])) (.ref (rest.length+1))with|some ys=>Res.ok (PV.lst (cut ys lo hi)) _|none=>.bad)=_;have:Tw (.lst xs::(rest++ [.lst (V.map PV.str)])) (.ref (rest.length+1))=some (V.map PV.str):=by simp[Tw]
  rw[this,← lN]
 have ap:∀(l:List Nat) r,bK (.ref 0) [.str l] (.lst (acc.map PV.str)::r)=.ok .non (.lst (acc.map PV.str++ [.str l])::r):=fun l r=>by rw[Kh,if_pos (by rw[List.length_map];exact Nat.lt_of_lt_of_le la (by decide))]
 have cl:∀(V:List (List Nat)) lo hi,V.length=8→(cut V lo hi).length≤100:=fun V lo hi h=>by have:=jK V lo hi;omega
 have ic:=HV
 by_cases q0:n % 3=0
 ·have e0:decide (n % 3=0)=true:=decide_eq_true q0;obtain⟨j1,_,j3⟩:=qZ (V:=cut W none (some (1+(0+(j:Nat)) % 8))) hW (fun x hx=>jJ hx) (cl _ _ _ hW.1) (.lst (acc.map PV.str)::(rest++ [.lst (W.map PV.str)]))
  have nw:Vg (cut W none (some (1+(0+(j:Nat)) % 8))).flatten:=by rw[← eW,nT,kS];have:=BK (iu (iu nw0 hb) (show j % 8<8 by omega));rw[show(1+(0+((j:Nat):Int)) % 8)=1+((j % 8:Nat):Int) by omega];exact this
  refine⟨_,rest++ [.lst (W.map PV.str)],some (.ref (rest.length+1)),⟨j1,nw⟩,?_⟩;simp only[EX,cQ,b8,ln,cm,nl,e0,d0,dW,sW,ic,j3,ap,List.map_append]
 ·have e0:decide (n % 3=0)=false:=decide_eq_false q0
  by_cases q1:n % 3=1
  ·have e1:decide (n % 3=1)=true:=decide_eq_true q1;have az:=CW (n / 192+7 * (0+(j:Nat))+1);have ao:=Il (n / 192+7 * (0+(j:Nat))+1);have zl:bq.length≤16777216:=by decide
   generalize YD (n / 192+7 * (0+(j:Nat))+1)=s at az ao
   have hV:w8 (W.set ax.toNat [s]):=by
    refine⟨by rw[List.length_set];exact hW.1,List.all_eq_true.mpr fun x hx=>?_,fun x hx=>?_⟩
    ·rcases List.mem_or_eq_of_mem_set hx with h|h
     ·exact List.all_eq_true.mp hW.2.1 x h
     ·subst h;exact ao
    ·rcases List.mem_or_eq_of_mem_set hx with h|h
     ·exact hW.2.2 x h
     ·subst h;exact ab2 _
   have si:∀ ρ,iq (.str [s]) (.ref (rest.length+1)) (.int ax) ρ (.lst (acc.map PV.str)::(rest++ [.lst (W.map PV.str)]))=.nx ρ (.lst (acc.map PV.str)::(rest++ [.lst ((W.set ax.toNat [s]).map PV.str)])):=fun ρ=>by
    unfold iq;have e2:mT (.lst (acc.map PV.str)::(rest++ [.lst (W.map PV.str)])) (.ref (rest.length+1))=some (rest.length+1,W.map PV.str):=by unfold mT;simp
    have e3:TY (W.map PV.str).length ax=some ax.toNat:=by unfold TY;rw[List.length_map,hW.1,if_pos ha.1,if_pos (by omega)]
    rw[e2];dsimp only;rw[e3];dsimp only;rw[List.set_cons_succ,List.set_append_right _ _ (ab2 _),Nat.sub_self,List.set_cons_zero,List.map_set]
   obtain⟨j1,_,j3⟩:=qZ (V:=cut (W.set ax.toNat [s]) none (some sz)) hV (fun x hx=>jJ hx) (cl _ _ _ hV.1) (.lst (acc.map PV.str)::(rest++ [.lst ((W.set ax.toNat [s]).map PV.str)]))
   have nw:Vg (cut (W.set ax.toNat [s]) none (some sz)).flatten:=by
    have es:W.set ax.toNat [s]=Vb ((wB b).set ax.toNat s):=by rw[← eW];unfold Vb;rw[List.map_set]
    rw[es,nT,kS];intro z;have h1:=iu (iu (iu nw1 hb) (show ax.toNat<8 by omega)) (show sz.toNat<9 by omega);have h2:=List.all_eq_true.mp h1 _ z;rw[Fd,show((sz.toNat:Nat):Int)=sz by omega]at h2;simp at h2
   refine⟨_,rest++ [.lst ((W.set ax.toNat [s]).map PV.str)],some (.ref (rest.length+1)),⟨j1,nw⟩,?_⟩;simp only[EX,cQ,b8,ln,cm,nl,e0,e1,d0,dW,sW,ic,az,zl,si,j3,ap,List.map_append]
  ·have e1:decide (n % 3=1)=false:=decide_eq_false q1;have l1:=cl W (some ((0+(j:Nat)) % 8)) none hW.1;have l2:=cl W none (some ((0+(j:Nat)) % 8)) hW.1;have l1':=jK W (some ((0+(j:Nat)) % 8)) none;have l2':=jK W none (some ((0+(j:Nat)) % 8));have w8l:=hW.1;have aa:=nY ((cut W (some ((0+(j:Nat)) % 8)) none).map PV.str) ((cut W none (some ((0+(j:Nat)) % 8))).map PV.str) (.lst (acc.map PV.str)::(rest++ [.lst (W.map PV.str)])) (by rw[List.length_map,List.length_map];omega);rw[← List.map_append]at aa
   obtain⟨j1,j2,j3⟩:=qZ (V:=cut W (some ((0+(j:Nat)) % 8)) none++cut W none (some ((0+(j:Nat)) % 8))) hW (fun x hx=>by rcases List.mem_append.mp hx with h|h<;>exact jJ h) (by rw[List.length_append];omega) (.lst (acc.map PV.str)::(rest++ [.lst (W.map PV.str)]))
   have jl:(cut W (some ((0+(j:Nat)) % 8)) none++cut W none (some ((0+(j:Nat)) % 8))).flatten.length≤16777216:=by omega
   have nw:Vg (cut (cut W (some ((0+(j:Nat)) % 8)) none++cut W none (some ((0+(j:Nat)) % 8))).flatten none (some (8 - (0+(j:Nat)) / 8))):=by rw[← eW,nT,nT,List.flatten_append,kS,kS];have:=BK (iu (iu nw2 hb) hj);rw[Int.zero_add];exact this
   refine⟨_,rest++ [.lst (W.map PV.str)],some (.ref (rest.length+1)),⟨GH j1 none (some (8 - (0+(j:Nat)) / 8)),nw⟩,?_⟩;have ma:∀l,(acc++ [l]).map PV.str=acc.map PV.str++ [.str l]:=fun l=>by rw[List.map_append];rfl
   simp only[EX,cQ,b8,ln,cm,nl,e0,e1,d0,dW,sW,ic,aa,j3,jl,ap,ma]
theorem qv(k:Nat)(n sz ax:Int)(hs:0≤sz∧sz≤8)(ha:0≤ax∧ax<8)(x7:Option PV):∀(js:List Nat)(x5 x6:Option PV)(acc:List (List Nat))(rest:List PO),(∀j∈js,j<12)→acc.length+js.length<16777216→Oq acc=true→(∀x∈acc,Vg x)→∃(ls:List (List Nat))(y5 y6:Option PV)(Vd:List PO),ls.length=acc.length+js.length∧(Oq ls=true∧∀x∈ls,Vg x)∧
  aJ (G5 5) (cQ (F k)) (js.map fun j=>PV.int (0+(j:Nat))) [some (.int n),some (.str bq),some (.int sz),some (.int ax),some (.ref 0),x5,x6,x7] (.lst (acc.map PV.str)::rest)=.nx [some (.int n),some (.str bq),some (.int sz),some (.int ax),some (.ref 0),y5,y6,x7] (.lst (ls.map PV.str)::Vd)
 |[],x5,x6,acc,rest,_,_,ho,hn=>⟨acc,x5,x6,rest,rfl,⟨ho,hn⟩,by rw[List.map_nil,aJ]⟩
 |j::r,x5,x6,acc,rest,hj,hl,ho,hn=>by
  rw[List.length_cons]at hl;obtain⟨l,XS,x6',⟨ol,nl⟩,e⟩:=zp k n sz ax hs ha j (hj j List.mem_cons_self) x6 x7 acc (by omega) rest
  obtain⟨ls,y5,y6,XR,e1,e2,e3⟩:=qv k n sz ax hs ha x7 r (some (.int (0+(j:Nat)))) x6' (acc++ [l]) XS (fun z hz=>hj z (List.mem_cons_of_mem _ hz)) (by rw[List.length_append,List.length_singleton];omega) (kR ho (by simp[Oq,ol])) (fun z hz=>by
   rcases List.mem_append.mp hz with q|q
   ·exact hn z q
   ·cases List.mem_singleton.mp q;exact nl)
  refine⟨ls,y5,y6,XR,by rw[e1,List.length_append];simp only[List.length_cons,List.length_nil];omega,e2,?_⟩;rw[List.map_cons];exact Eq.trans (dD rfl e) e3
noncomputable def Pr(ms:List (List Nat)):PV:=.lst (ms.map PV.str)
theorem HK(h:List PO)(ms:List (List Nat)):aj h (Pr ms)=Pr ms:=rfl
noncomputable def Ig:List (List Nat):=[[97],[98],[97,98],[98,97],[105,116,101,109],[105,116,101,109,115],[99],[120],[120,121],[121],[114,111,119],[114,111,119,115]]
noncomputable def io:List (List Nat):=[[97,115],[98,101,116,119,101,101,110],[98,111,100,121],[101,108,115,101],[101,110,100],[102,111,114],[105,102],[105,110],[112,105,101,99,101],[117,115,101],[119,105,116,104]]
theorem zu(k:Nat)(n:Int):∃ls:List (List Nat),ls.length=12∧Oq ls=true∧(ls.Nodup∧∀x∈ls,Vg x)∧F (k+1) .M_ [.int n]=.ok (Pr ls):=by
 have s0:=Int.emod_nonneg (n / 3) (by decide:(8:Int)≠0);have s1:=Int.emod_lt_of_pos (n / 3) (by decide:(0:Int)<8);have t0:=Int.emod_nonneg (n / 24) (by omega:1+n / 3 % 8≠0);have t1:=Int.emod_lt_of_pos (n / 24) (by omega:0<1+n / 3 % 8);obtain⟨ls,y5,y6,rest,e1,⟨e2,nwl⟩,e3⟩:=qv k n (1+n / 3 % 8) (n / 24 % (1+n / 3 % 8)) (by omega) (by omega) none (List.range 12) none none [] [] (fun j hj=>List.mem_range.mp hj) (by simp) rfl (fun x hx=>by cases hx);have Zd:ls.length=12:=by rw[e1];simp
 have p4:decide (0<1+n / 3 % 8)=true:=decide_eq_true (by omega);have b12:RM 4611686018427387904 12=true:=rfl;have r12:(List.range (Int.toNat 12))=List.range 12:=rfl;have e3':aJ (G5 5) (cQ (F k)) ((List.range 12).map fun j=>PV.int (0+(j:Nat))) [some (.int n),some (.str bq),some (.int (1+n / 3 % 8)),some (.int (n / 24 % (1+n / 3 % 8))),some (.ref 0),none,none,none] [.lst []]=.nx [some (.int n),some (.str bq),some (.int (1+n / 3 % 8)),some (.int (n / 24 % (1+n / 3 % 8))),some (.ref 0),y5,y6,none] (.lst (ls.map PV.str)::rest):=e3;have d0:∀(xs:List PV) r,aj (.lst xs::r) (.ref 0)=.ref 0:=fun xs r=>rfl;have dz:∀(q:PV) r,aj (.J7 q::r) (.ref 0)=q:=fun xs r=>rfl;have sc:ls.length+1<scanBound:=by rw[Zd];decide
 have lz:cE (.ref 0) (.lst (ls.map PV.str)::rest)=.ok (.int (mY ls:Nat)) (.lst (ls.map PV.str)::rest):=by show(match cG (ls.map PV.str)with|some ls=>if ls.length+1<scanBound then Res.ok (PV.int (mY ls:Nat)) _ else .bad|none=>.bad)=_;rw[gA];dsimp only;rw[if_pos sc]
 have fd:∃b:Bool,(b=true→F (k+1) .M_ [.int n]=.ok (Pr Ig))∧(b=false→dup ls=false∧F (k+1) .M_ [.int n]=.ok (Pr ls)):=by
  have r2:F (k+1) .M_ [.int n]=match gf (F k) [some (.int n),none,none,none,none,none,none,none] []with
   |.nx _ _=>.ok .non
   |.rt v h=>di v h
   |_=>.bad:=rfl
  by_cases c1:((mY ls:Nat):Int)<12
  ·have z1:decide (((mY ls:Nat):Int)<12)=true:=decide_eq_true c1;refine⟨true,fun _=>?_,fun h=>by cases h⟩;rw[r2];simp only[EX,gf,p4,b12,r12,e3',d0,lz,z1];rfl
  ·have z1:decide (((mY ls:Nat):Int)<12)=false:=decide_eq_false c1
   have sq:jb (.ref 0) (.lst (ls.map PV.str)::rest)=.ok (ls.map PV.str) (.J7 (.lst (ls.map PV.str))::rest):=by
    show(match gR (.lst (ls.map PV.str)::rest) (.ref 0)with|some (.lst xs,h2)=>Res.ok xs h2|_=>.bad)=_
    have:gR (.lst (ls.map PV.str)::rest) (.ref 0)=some (.lst (ls.map PV.str),.J7 (.lst (ls.map PV.str))::rest):=by unfold gR;simp only[List.getElem?_cons_zero,eI,if_true,List.set_cons_zero]
    rw[this]
   have ln:(ls.map PV.str).length<16777216:=by rw[List.length_map,Zd];decide
   have cm:∀ ρ h,bX [7] ρ=[some (.lst (io.map PV.str))]→bv (ja (F k)) (ju (F k)) (bX [7] ρ) (ls.map PV.str) h=.ok ((ls.filter fun x=>decide (x∈io)).map PV.str) h:=fun ρ h hc=>by
    rw[hc];refine pk PV.str (fun x=>decide (x∈io)) PV.str ls (fun x hx=>?_) fun x hx=>?_
    ·have i1:=HW (x:=x) (ls:=io) (jV (List.all_eq_true.mp e2 x hx)) (by decide) h;simp only[EX,ja,i1]
    ·simp only[EX,ju]
   have nn:∀h,Ry (.lst ((ls.filter fun x=>decide (x∈io)).map PV.str)) (.lst []) h=.ok (.bl (!((ls.filter fun x=>decide (x∈io)).map PV.str).isEmpty)) h:=fun h=>Et (hZ (rB e2 fun x hx=>(List.mem_filter.mp hx).1)) h;generalize(ls.filter fun x=>decide (x∈io)).map PV.str=fl at cm nn;have Wd:=cm [some (.int n),some (.str bq),some (.int (1+n / 3 % 8)),some (.int (n / 24 % (1+n / 3 % 8))),some (.ref 0),y5,y6,some (.lst (io.map PV.str))] (.J7 (.lst (ls.map PV.str))::rest) rfl;simp only[io,List.map_cons,List.map_nil]at Wd;refine⟨!fl.isEmpty,fun h=>?_,fun h=>?_⟩
   ·rw[r2];simp only[EX,gf,p4,b12,r12,e3',d0,lz,z1,sq,ln,Wd,nn,h];rfl
   ·refine⟨by unfold dup;rw[Zd];exact decide_eq_false (by omega),?_⟩;rw[r2];have fi:di (.lst (ls.map PV.str)) (.J7 (.lst (ls.map PV.str))::rest)=.ok (Pr ls):=bz (by rw[PV.pure];exact eI ls);simp only[EX,gf,p4,b12,r12,e3',d0,lz,z1,sq,ln,Wd,nn,h,dz,fi]
 obtain⟨b,h1,h2⟩:=fd
 cases b with
 |true=>exact⟨Ig,rfl,by decide,⟨by decide,fun x hx=>BK (List.all_eq_true.mp (by decide:(Ig.all fun x=>!S6.contains x)=true) x hx)⟩,h1 rfl⟩
 |false=>exact⟨ls,Zd,e2,⟨(wD ls).mp (h2 rfl).1,nwl⟩,(h2 rfl).2⟩
theorem FI(n:Nd):sg (kT n)=true:=by cases n<;>rfl
noncomputable def V7:Nd→Bool
 |.text _=>true
 |_=>false
theorem EC(n:Nd)(h:List PO):M8 (.str (kT n)) (.str tT) h=.ok (.bl (V7 n)) h:=by
 rw[JZ (FI n) mU.1]
 cases n<;>rfl
noncomputable def Wh:Nd→Nat
 |.text s=>s.length
 |_=>0
def Tg(l:List Nd):Nat:=(l.map Wh).sum
noncomputable def Tq(l:List Nd):Nat:=(l.map fun n=>Ph n+1).sum
structure Rw(kn:Cx)(d c t:Nat)(l:List Nd):Prop where
 w:∀n∈l,wN n=true∧okN kn n=true∧dN n≤d
 c:Tq l≤c
 t:Tg l≤t
theorem sU(l:List Nd):l.length≤Tq l:=by
 induction l with
 |nil=>exact ab2 _
 |cons a r ih=>unfold Tq at*;rw[List.map_cons,List.sum_cons,List.length_cons];omega
theorem yn(a b:List Nd):Tq (a++b)=Tq a+Tq b:=by unfold Tq;rw[List.map_append,List.sum_append]
theorem nG(a b:List Nd):Tg (a++b)=Tg a+Tg b:=by unfold Tg;rw[List.map_append,List.sum_append]
theorem Rw.mono{kn:Cx}{d c t d' c' t':Nat}{l:List Nd}(h:Rw kn d c t l)(hd:d≤d')(hc:c≤c')(ht:t≤t'):Rw kn d' c' t' l:=
 ⟨fun n hn=>⟨(h.w n hn).1,(h.w n hn).2.1,Nat.le_trans (h.w n hn).2.2 hd⟩,Nat.le_trans h.c hc,Nat.le_trans h.t ht⟩
theorem Rw.app{kn:Cx}{d c t c' t':Nat}{l m:List Nd}(h:Rw kn d c t l)(g:Rw kn d c' t' m):Rw kn d (c+c') (t+t') (l++m):=
 ⟨fun n hn=>by rcases List.mem_append.mp hn with z|z<;>first|exact h.w n z|exact g.w n z,by rw[yn];exact Nat.add_le_add h.c g.c,by rw[nG];exact Nat.add_le_add h.t g.t⟩
theorem yg{l:List Nd}(h:∀n∈l,wN n=true∧dN n≤20):fds 59 (l.map nd):=by
 induction l with
 |nil=>exact cL _
 |cons a r ih=>have:=h a List.mem_cons_self;exact aH (bI (FT this.1) (by omega)) (ih fun n hn=>h n (List.mem_cons_of_mem _ hn))
theorem HG{l:List PV}(hl:fds 59 l):Ry (.ref 0) (.lst []) [.lst l]=.ok (.bl (!l.isEmpty)) [.lst l]:=by
 have ok:PB [.lst l] (.ref 0)=true:=by unfold PB Qm;have:=hl.2.1;simp only[List.getElem?_cons_zero,PyData.canLay0,PyData.depth,hl.1,Bool.true_and,decide_eq_true_eq];omega
 unfold Ry;rw[if_pos ⟨ok,rfl⟩]
 cases l<;>rfl
theorem fD:∀l:List Nd,ah (l.map nd)=true
 |[]=>rfl
 |a::r=>by rw[List.map_cons,ah,bH,fD r];rfl
theorem BF(k:Nat)(v:PV)(acc:List Nd)(n:Nd)(hf:∀n∈acc,wN n=true∧dN n≤20)(hl:acc.length<16777216)(ht:Tg acc+Wh n≤1000)(x2:Option PV):∃acc',dO (F k) [some v,some (.ref 0),some (nd n)] [.lst (acc.map nd)]=.nx [some v,some (.ref 0),some (nd n)] [.lst (acc'.map nd)]∧
  (acc'=acc++ [n]∨∃B u s,acc=B++ [.text u]∧n=.text s∧acc'=B++ [.text (u++s)]):=by
 have d0:∀xs:List PV,aj [.lst xs] (.ref 0)=.ref 0:=fun xs=>rfl;have li:∀xs,ei [.lst xs] (.ref 0)=true:=fun _=>rfl;have ne:=HG (yg hf)
 have ap:bK (.ref 0) [nd n] [.lst (acc.map nd)]=.ok .non [.lst ((acc++ [n]).map nd)]:=by rw[Kh,if_pos (by rw[List.length_map];exact Nat.lt_of_lt_of_le hl (by decide)),List.map_append];rfl
 cases t:V7 n with
 |false=>refine⟨acc++ [n],?_,.inl rfl⟩;simp only[EX,dO,EC,t,d0,li,ap]
 |true=>
  obtain⟨s,rfl⟩:∃s,n=.text s:=by cases n<;>first|exact⟨_,rfl⟩|cases t
  rcases List.eq_nil_or_concat acc with rfl|⟨B,m,rfl⟩
  ·refine⟨[.text s],?_,.inl rfl⟩;have e0:(!(([]:List Nd).map nd).isEmpty)=false:=rfl;rw[e0]at ne;simp only[List.map_nil]at ne ap ⊢;simp only[EX,dO,EC,t,d0,li,ne,ap]
  ·rw[List.concat_eq_append]at ne ap hl ht ⊢;have e0:(!((B++ [m]).map nd).isEmpty)=true:=by simp
   rw[e0]at ne
   have ixl:b_ (.ref 0) (.int (-1)) [.lst ((B++ [m]).map nd)]=.ok (nd m) [.lst ((B++ [m]).map nd)]:=by
    show(match O8 ((B++ [m]).map nd) (-1)with|some v=>Res.ok (aj [.lst ((B++ [m]).map nd)] v) [.lst ((B++ [m]).map nd)]|none=>.bad)=_;have q:O8 ((B++ [m]).map nd) (-1)=some (nd m):=by rw[List.map_append];exact vg _ _
    rw[q];show Res.ok (aj _ (nd m)) _=_;rw[gI]
   cases tm:V7 m with
   |false=>refine⟨B++ [m]++[.text s],?_,.inl rfl⟩;simp only[EX,dO,EC,t,tm,d0,li,ne,ixl,ap]
   |true=>
    obtain⟨u,rfl⟩:∃u,m=.text u:=by cases m<;>first|exact⟨_,rfl⟩|cases tm
    refine⟨B++ [.text (u++s)],?_,.inr ⟨B,u,s,rfl,rfl,rfl⟩⟩;have al:u.length+s.length≤16777216:=by rw[nG]at ht;simp only[Tg,List.map_cons,List.map_nil,List.sum_cons,List.sum_nil,Wh]at ht;omega
    have st:∀ ρ v,iq v (.ref 0) (.int (-1)) ρ [.lst ((B++ [Nd.text u]).map nd)]=.nx ρ [.lst (B.map nd++ [v])]:=fun ρ v=>by
     show(match TY ((B++ [Nd.text u]).map nd).length (-1)with|some j=>SR.nx ρ [.lst (((B++ [Nd.text u]).map nd).set j v)]|none=>.bad)=_;have:TY ((B++ [Nd.text u]).map nd).length (-1)=some B.length:=by unfold TY;simp;omega
     rw[this];dsimp only;rw[List.map_append]
     congr 3
     rw[List.set_append_right _ _ (by simp)];simp
    have i1:∀z h,b_ (nd (.text z)) (.int 1) h=.ok (.str z) h:=fun z h=>by rw[nd];rfl
    have ma:(B++ [Nd.text (u++s)]).map nd=B.map nd++ [.tup [.str tT,.str (u++s)]]:=by simp[nd]
    simp only[EX,dO,EC,t,tm,d0,li,ne,ixl,st,i1,al,ma]
theorem uA(kn:Cx)(d c t k:Nat)(hd:d≤20)(hc:c≤1000000)(ht:t≤1000)(v:PV):∀(r acc:List Nd)(x2:Option PV),Rw kn d c t (acc++r)→∃acc' y2,Rw kn d c t acc'∧
  aJ (G5 2) (dO (F k)) (r.map nd) [some v,some (.ref 0),x2] [.lst (acc.map nd)]=.nx [some v,some (.ref 0),y2] [.lst (acc'.map nd)]
 |[],acc,x2,h=>⟨acc,x2,by rw[List.append_nil]at h;exact h,by rw[List.map_nil,aJ]⟩
 |n::r,acc,x2,h=>by
  have hl:=sU (acc++n::r);have hcc:=h.c;have htt:=h.t;rw[List.length_append,List.length_cons]at hl;have e1:Tg (acc++n::r)=Tg acc+(Wh n+Tg r):=by rw[nG];rfl
  obtain⟨YF,s1,s2⟩:=BF k v acc n (fun z hz=>⟨(h.w z (List.mem_append_left _ hz)).1,Nat.le_trans (h.w z (List.mem_append_left _ hz)).2.2 hd⟩) (by omega) (by omega) x2
  have h1:Rw kn d c t (YF++r):=by
   rcases s2 with rfl|⟨B,u,s,rfl,rfl,rfl⟩
   ·rw[List.append_assoc];exact h
   ·have wu:=h.w (.text u) (by simp);have ws:=h.w (.text s) (by simp);refine⟨fun z hz=>?_,?_,?_⟩
    ·rw[List.append_assoc]at hz;rcases List.mem_append.mp hz with z1|z1
     ·exact h.w z (by simp[z1])
     ·rcases List.mem_cons.mp z1 with z2|z2
      ·subst z2;refine⟨?_,rfl,Nat.zero_le _⟩;have a1:=wu.1;have a2:=ws.1;rw[wN]at a1 a2 ⊢;exact GI a1 a2
      ·exact h.w z (by simp[show z∈r from z2])
    ·have:=h.c;simp only[yn]at this ⊢;simp only[Tq,List.map_cons,List.map_nil,List.sum_cons,List.sum_nil,Ph]at this ⊢;omega
    ·have:=h.t;simp only[nG]at this ⊢;simp only[Tg,List.map_cons,List.map_nil,List.sum_cons,List.sum_nil,Wh,List.length_append]at this ⊢;omega
  obtain⟨aa2,y2,r1,r2⟩:=uA kn d c t k hd hc ht v r YF (some (nd n)) h1;refine⟨aa2,y2,r1,?_⟩;rw[List.map_cons];exact Eq.trans (dD rfl s1) r2
noncomputable def tv(b:Bool)(xs:List PV):PV:=if b then .tup xs else .lst xs
theorem IG(b:Bool)(xs:List PV)(h:List PO):aj h (tv b xs)=tv b xs:=by cases b<;>rfl
theorem IF(b:Bool)(xs:List PV)(h:List PO):jb (tv b xs) h=.ok xs h:=by cases b<;>rfl
theorem vX(kn:Cx)(d c t k:Nat)(hd:d≤20)(hc:c≤1000000)(ht:t≤1000)(b:Bool)(l:List Nd)(h:Rw kn d c t l):∃l',Rw kn d c t l'∧F (k+1) .Ot [tv b (l.map nd)]=.ok (.tup (l'.map nd)):=by
 obtain⟨l',y2,r1,r2⟩:=uA kn d c t k hd hc ht (tv b (l.map nd)) l [] none h;refine⟨l',r1,?_⟩
 have e2:F (k+1) .Ot [tv b (l.map nd)]=match nW (F k) [some (tv b (l.map nd)),none,none] []with
   |.nx _ _=>.ok .non
   |.rt v h=>di v h
   |_=>.bad:=rfl
 have r2':aJ (G5 2) (dO (F k)) (l.map nd) [some (tv b (l.map nd)),some (.ref 0),none] [.lst []]=.nx [some (tv b (l.map nd)),some (.ref 0),y2] [.lst (l'.map nd)]:=r2;have d0:∀xs:List PV,aj [.lst xs] (.ref 0)=.ref 0:=fun xs=>rfl;have tp:fM [.ref 0] [.lst (l'.map nd)]=.ok (.tup (l'.map nd)) [.lst (l'.map nd)]:=rfl;rw[e2];simp only[EX,nW,IG,IF,r2',d0,tp];exact bz (by rw[PV.pure];exact fD l')
noncomputable def cv(cs:List Int):PV:=.Qs (cs.map PV.int)
theorem iN(cs:List Int):(cv cs).pure=true:=by
 unfold cv;rw[PV.pure]
 induction cs with
 |nil=>rfl
 |cons a r ih=>rw[List.map_cons,ah,ih];rfl
theorem CH(cs:List Int)(h:List PO):aj h (cv cs)=cv cs:=rfl
abbrev J2(n m:Int):PO:=.lst [.int n,.int m]
theorem bx(n m:Int):(J2 n m).pure=true:=rfl
theorem Ff(k:Nat)(cs:List Int)(hc:cs.length≤63)(n m:Int)(h0:0≤n)(h1:n≤2000000):∃v,0≤v∧v<400000000∧L (k+1) .J6 [cv cs,.ref 0] [J2 n m]=.ok (.int v) [J2 (n+1) m]:=by
 have Uz:∀i:Int,b_ (.ref 0) (.int 0) [J2 i m]=.ok (.int i) [J2 i m]:=fun m=>rfl;have d0:∀i:Int,aj [J2 i m] (.ref 0)=.ref 0:=fun m=>rfl;have st:∀ ρ,iq (.int (n+1)) (.ref 0) (.int 0) ρ [J2 n m]=.nx ρ [J2 (n+1) m]:=fun ρ=>rfl;have ln:∀h,cV [.Qs (cs.map PV.int)] h=.ok (.int cs.length) h:=fun h=>by rw[FE,List.length_map]
 have m3:∀x:Int,hJ x (n+1)=true:=fun x=>sw (bR.mpr ⟨by omega,by omega⟩);have fin:∀b:Int,0≤b * 48271 % 2147483647 / 7∧b * 48271 % 2147483647 / 7<400000000:=fun b=>by omega
 have ct:∀v:Int,dq 1 (.int v) [J2 (n+1) m]=.ok (.int v) [J2 (n+1) m]:=fun v=>rfl
 cases cs with
 |nil=>
  refine⟨_,(fin (31 * (n+1) * (n+1)+7919 * (n+1))).1,(fin _).2,?_⟩;show eC (ij (F k)) 2 4 [.Qs [],.ref 0] [J2 n m]=_;have ln0:∀h,cV [.Qs []] h=.ok (.int 0) h:=fun h=>rfl;have g0:decide ((0:Int)<0)=false:=by decide
  simp -implicitDefEqProofs only [EX,CH,eC,ij,Uz,d0,st,ln0,m3,ct,Int.reduceLT]
 |cons a r=>
  have Wa:(0:Int)<(((a::r).length:Nat):Int):=by rw[List.length_cons];omega
  have hl1:(((a::r).length:Nat):Int)<1073741824:=by omega
  have q0:0≤(n+1) % (((a::r).length:Nat):Int):=Int.emod_nonneg _ (by omega);have q1:(n+1) % (((a::r).length:Nat):Int)<(((a::r).length:Nat):Int):=Int.emod_lt_of_pos _ Wa
  have ax:O8 ((a::r).map PV.int) ((n+1) % (((a::r).length:Nat):Int))=some (.int ((a::r).getD ((n+1) % (((a::r).length:Nat):Int)).toNat 0)):=by refine dj q0 ?_;rw[List.getElem?_map,List.getD_eq_getElem?_getD,List.getElem?_eq_getElem (by omega)];rfl
  have dv0:0≤(n+1) / (((a::r).length:Nat):Int):=Int.ediv_nonneg (by omega) (by omega);have dv1:(n+1) / (((a::r).length:Nat):Int)≤n+1:=Int.ediv_le_self _ (by omega);have m5:∀x:Int,hJ x (1+(n+1) / (((a::r).length:Nat):Int))=true:=fun x=>sw (bR.mpr ⟨by omega,by omega⟩);have p3:decide ((0:Int)<(((a::r).length:Nat):Int))=true:=decide_eq_true Wa;have p4:decide ((0:Int)<(((a::r).length:Nat):Int)∧(((a::r).length:Nat):Int)<1073741824)=true:=decide_eq_true ⟨Wa,hl1⟩;unfold cv;generalize hL:(((a::r).length:Nat):Int)=Ln at*;generalize hC:(a::r).map PV.int=cl at*;refine⟨_,(fin (31 * (n+1) * (n+1)+7919 * (n+1)+(a::r).getD ((n+1) % Ln).toNat 0 * (1+(n+1) / Ln))).1,(fin _).2,?_⟩;show eC (ij (F k)) 2 4 [.Qs cl,.ref 0] [J2 n m]=_;simp -implicitDefEqProofs only [EX,CH,eC,ij,Uz,d0,st,ln,p3,ax,m3,m5,p4,ct]
def Ob(p:Pe):PV:=.tup [.str p.n,.int p.m,J3 p.h]
structure At where
 ns:List (List Nat)
 ps:List Pe
 h:Option Int
 ms:List (List Nat)
abbrev kN:List Nat:=[110,97,109,101,115]
abbrev kP:List Nat:=[112,105,101,99,101,115]
abbrev kH:List Nat:=[104,97,110,100,101,100]
abbrev kM:List Nat:=[109,101,110,117]
def av(A:At):PV:=.dct [(.inr kN,nms A.ns),(.inr kP,.lst (A.ps.map Ob)),(.inr kH,J3 A.h),(.inr kM,Pr A.ms)]
def hO:Option Int→Prop
 |none=>True
 |some i=>0≤i∧i≤3
abbrev UL(A:At):Cx:=(A.ps,A.h,A.ns)
structure Vn(j:Nat)(A:At):Prop where
 n:Oq A.ns=true
 l:A.ns.length≤j
 pl:A.ps.length≤1000
 p:∀p∈A.ps,sg p.n=true∧p.m≤4∧hO p.h
 h:hO A.h
 ml:A.ms.length=12
 m:Oq A.ms=true
 mn:A.ms.Nodup
 pn:(A.ps.map (·.n)).Nodup
theorem oX(m:Option Int):(J3 m).pure=true:=by cases m<;>rfl
theorem oY(m:List (List Nat)):(Pr m).pure=true:=by unfold Pr;rw[PV.pure];exact eI m
theorem mB:∀l:List Pe,ah (l.map Ob)=true
 |[]=>rfl
 |a::r=>by rw[List.map_cons,ah,mB r];simp[Ob,PV.pure,ah,oX]
theorem fW(A:At):(av A).pure=true:=by simp[av,PV.pure,dL,bh,mB,oX,oY]
section
variable(A:At)(h:List PO)
theorem Kg:aj h (av A)=av A:=rfl
theorem Mw:b_ (av A) (.str kN) h=.ok (nms A.ns) h:=rfl
theorem Mv:b_ (av A) (.str kP) h=.ok (.lst (A.ps.map Ob)) h:=rfl
theorem My:b_ (av A) (.str kH) h=.ok (J3 A.h) h:=by show Res.ok (aj h (J3 A.h)) h=_;rw[jk]
theorem Mx:b_ (av A) (.str kM) h=.ok (Pr A.ms) h:=rfl
end
local macro_rules | `(tactic| simp $c:optConfig only [EY,$xs,*])=>do let a←(("HK CH Kg Mw Mv My Mx".splitOn.map fun n=>n.toName)).toArray.mapM fun n=>`(Lean.Parser.Tactic.simpLemma| $(Lean.mkIdent n):term);`(tactic| simp $c:optConfig only [EX,$a,*,$xs,*])
theorem wd{ms:List (List Nat)}(hl:ms.length=12)(hs:Oq ms=true)(i:Int)(h0:0≤i)(h1:i<12):∃l,sg l=true∧(∀h,b_ (Pr ms) (.int i) h=.ok (.str l) h)∧l∈ms:=by
 have hi:i.toNat<ms.length:=by omega
 refine⟨ms.getD i.toNat [],List.all_eq_true.mp hs _ (gp hi),fun h=>?_,gp hi⟩;unfold Pr;rw[xZ,dj (v:=PV.str (ms.getD i.toNat [])) h0 (by rw[List.getElem?_map,List.getD_eq_getElem?_getD,List.getElem?_eq_getElem hi];rfl)];rfl
theorem bL(x:Int){m:Int}(h:0<m):0≤x % m∧x % m<m:=⟨Int.emod_nonneg _ (by omega),Int.emod_lt_of_pos _ h⟩
theorem BT{α:Type}{te:Ex}{cp:Ev}{h:List PO}(f:α→PV)(R:List Nat→Prop):∀l:List α,(∀x∈l,∃s,R s∧te (some (f x)::cp) h=.ok (.str s) h)→∃ss:List (List Nat),ss.length=l.length∧(∀s∈ss,R s)∧bv cJ te cp (l.map f) h=.ok (ss.map PV.str) h
 |[],_=>⟨[],rfl,by simp,rfl⟩
 |x::r,hx=>by
  obtain⟨s,h1,h2⟩:=hx x List.mem_cons_self;obtain⟨ss,g0,g1,g2⟩:=BT f R r fun z hz=>hx z (List.mem_cons_of_mem _ hz);refine⟨s::ss,by simp[g0],fun z hz=>?_,?_⟩
  ·rcases List.mem_cons.mp hz with q|q
   ·subst q;exact h1
   ·exact g1 z q
  ·rw[List.map_cons,bv];simp only[cJ,Res.M4,if_true,h2,g2,List.map_cons]
theorem oQ(k:Nat){j:Nat}(A:At)(hA:Vn j A)(hn:A.ns≠ [])(lj:j≤1000)(n:Int):∃p,(wp p=true∧Tn (UL A) [p]=true)∧F (k+1) .G7 [.int n,av A]=.ok (QV p):=by
 obtain⟨m0,m1⟩:=bL (n / 13) (by decide:(0:Int)<6)
 obtain⟨c,hc0,hc3,ec⟩:∃c:Int,0≤c∧c≤3∧O8 [PV.int 0,.int 0,.int 1,.int 2,.int 3,.int 1] (n / 13 % 6)=some (.int c):=by rcases(show n / 13 % 6=0∨n / 13 % 6=1∨n / 13 % 6=2∨n / 13 % 6=3∨n / 13 % 6=4∨n / 13 % 6=5 by omega)with q|q|q|q|q|q<;>rw[q]<;>exact⟨_,by decide,by decide,rfl⟩
 have bc:RM 4611686018427387904 c=true:=bR.mpr ⟨by omega,by omega⟩
 obtain⟨ss,g0,g1,g2⟩:=BT (te:=gS (F k)) (cp:=[some (av A),some (.int n)]) (h:=[]) (fun i:Nat=>PV.int (0+(i:Nat))) (fun s=>sg s=true) (List.range c.toNat) fun i _=>by obtain⟨q0,q1⟩:=bL (n / 97+5 * (0+(i:Nat))) (by decide:(0:Int)<12);obtain⟨l,l1,l2,_⟩:=wd hA.ml hA.m _ q0 q1;exact⟨l,l1,by simp only[EY,gS,l2]⟩
 have l3:((List.range c.toNat).map fun i=>PV.int (0+(i:Nat))).length<16777216:=by rw[List.length_map,List.length_range];omega
 have Wa:(0:Int)<(A.ns.length:Nat):=by have:=List.length_pos_iff.mpr hn;omega
 obtain⟨q0,q1⟩:=bL n Wa;have p5:decide ((0:Int)<(A.ns.length:Nat))=true:=decide_eq_true Wa;have hi:(n % (A.ns.length:Nat)).toNat<A.ns.length:=by omega
 have ix:∀h,b_ (nms A.ns) (.int (n % (A.ns.length:Nat))) h=.ok (.str (A.ns.getD (n % (A.ns.length:Nat)).toNat [])) h:=fun h=>by unfold nms;rw[xY,dj (v:=PV.str (A.ns.getD (n % (A.ns.length:Nat)).toNat [])) q0 (by rw[List.getElem?_map,List.getD_eq_getElem?_getD,List.getElem?_eq_getElem hi];rfl)];rfl
 refine⟨⟨A.ns.getD (n % (A.ns.length:Nat)).toNat [],ss⟩,⟨?_,?_⟩,?_⟩
 ·rw[wp,ab1];exact⟨List.all_eq_true.mp hA.n _ (gp hi),by rw[ab1];exact⟨List.all_eq_true.mpr g1,decide_eq_true (by show ss.length≤10;rw[g0,List.length_range];omega)⟩⟩
 ·have:A.ns.contains (A.ns.getD (n % (A.ns.length:Nat)).toNat [])=true:=List.contains_iff_mem.mpr (gp hi);simp only[Tn,List.all_cons,List.all_nil,Bool.and_true];exact this
 ·have r2:F (k+1) .G7 [.int n,av A]=match gK (F k) [some (.int n),some (av A),none] []with
   |.nx _ _=>.ok .non
   |.rt v h=>di v h
   |_=>.bad:=rfl
  have cp:∀x,bX [1,0] [some (.int n),some (av A),x]=[some (av A),some (.int n)]:=fun _=>rfl;have aa:∀h,aB (.tup [.str (A.ns.getD (n % (A.ns.length:Nat)).toNat [])]) (.tup (ss.map PV.str)) h=.ok (QV ⟨A.ns.getD (n % (A.ns.length:Nat)).toNat [],ss⟩) h:=fun h=>iT _ _ h (by rw[List.length_map,g0,List.length_range];exact Nat.le_trans (by simp;omega:_≤10) (by decide));have dp:∀h,aj h (PV.tup (ss.map PV.str))=.tup (ss.map PV.str):=fun _=>rfl;rw[r2];simp only[EY,gK,ec,bc,l3,cp,g2,p5,ix,aa,dp];exact bz (jg _)
theorem sO{α β:Type}{te:Ex}{cp:Ev}{m:Int}(f:α→PV)(g:β→PV)(R:β→Prop)(c:Int)(hc:0≤c)(hi:Int):∀(l:List α)(n:Int),0≤n→n+c * l.length≤hi→(∀x∈l,∀n,0≤n→n+c≤hi→∃y n',R y∧n≤n'∧n'≤n+c∧te (some (f x)::cp) [J2 n m]=.ok (g y) [J2 n' m])→
  ∃(ys:List β)(n':Int),ys.length=l.length∧(∀y∈ys,R y)∧n≤n'∧n'≤n+c * l.length∧bv cJ te cp (l.map f) [J2 n m]=.ok (ys.map g) [J2 n' m]
 |[],n,_,_,_=>⟨[],n,rfl,by simp,Int.le_refl _,by simp,rfl⟩
 |x::r,n,h0,hn,hx=>by
  have e:c * ((x::r).length:Int)=c * (r.length:Int)+c:=by rw[List.length_cons,Int.natCast_add,Int.mul_add];simp
  have hr:0≤c * (r.length:Int):=Int.mul_nonneg hc (by omega);rw[e]at hn;obtain⟨y,n1,y1,y2,y3,y4⟩:=hx x List.mem_cons_self n h0 (by omega);obtain⟨ys,n2,z0,z1,z2,z3,z4⟩:=sO f g R c hc hi r n1 (by omega) (by omega) fun z hz=>hx z (List.mem_cons_of_mem _ hz);refine⟨y::ys,n2,by simp[z0],fun z hz=>?_,by omega,by rw[e];omega,?_⟩
  ·rcases List.mem_cons.mp hz with q|q
   ·subst q;exact y1
   ·exact z1 z q
  ·rw[List.map_cons,bv];simp only[cJ,Res.M4,if_true,y4,z4,List.map_cons]
theorem ge(k:Nat)(cs:List Int)(hc:cs.length≤63)(n m:Int)(h0:0≤n)(h1:n≤2000000)(r:List PO):∃v,0≤v∧v<400000000∧bY (L (k+1) .J6) [cv cs,.ref 0] (J2 n m::r)=.ok (.int v) (J2 (n+1) m::r):=by obtain⟨v,v0,v1,e⟩:=Ff k cs hc n m h0 h1;exact⟨v,v0,v1,dg (fn:=L (k+1) .J6) [cv cs] [] (by rw[ah,iN];rfl) rfl rfl (bx _ _) e rfl (bx _ _)⟩
theorem AU(l:List Ou):l.map QV=dR l:=rfl
theorem uw(k:Nat){j:Nat}(cs:List Int)(hc:cs.length≤63)(A:At)(hA:Vn j A)(lj:j≤1000)(c:Int)(c0:0≤c)(c4:c≤4)(hn:c=0∨A.ns≠ [])(n m:Int)(h0:0≤n)(h1:n≤1900000):
  ∃ps n',(wps ps=true∧Tn (UL A) ps=true∧(ps.length:Int)=c)∧n≤n'∧n'≤n+4∧L (k+2) .B_ [cv cs,.ref 0,av A,.int c] [J2 n m]=.ok (.tup (dR ps)) [J2 n' m]:=by
 have bc:RM 4611686018427387904 c=true:=bR.mpr ⟨by omega,by omega⟩;have l3:((List.range c.toNat).map fun i=>PV.int (0+(i:Nat))).length<16777216:=by rw[List.length_map,List.length_range];omega
 obtain⟨ps,n',g0,g1,g2,g3,g4⟩:=sO (te:=gr (F (k+1)) (L (k+1))) (cp:=[some (av A),some (cv cs),some (.ref 0)]) (m:=m) (fun i:Nat=>PV.int (0+(i:Nat))) QV (fun p=>wp p=true∧Tn (UL A) [p]=true) 1 (by decide) 2000000 (List.range c.toNat) n h0 (by rw[List.length_range];omega) fun i hi n h0 h1=>by
  obtain⟨v,_,_,e⟩:=ge k cs hc n m h0 (by omega) []
  have cn:A.ns≠ []:=by
   rcases hn with q|q
   ·subst q;simp at hi
   ·exact q
  obtain⟨p,p1,p2⟩:=oQ k A hA cn lj v;have cp:∀h,bg (F (k+1) .G7) [.int v,av A] h=.ok (QV p) h:=fun h=>aN h (by simp[ah,PV.pure,fW]) p2;have d0:aj [J2 n m] (.ref 0)=.ref 0:=rfl;exact⟨p,n+1,p1,by omega,by omega,by simp only[EY,gr,d0,e,cp]⟩
 rw[List.length_range]at g0 g3;refine⟨ps,n',⟨?_,List.all_eq_true.mpr fun p hp=>by have:=(g1 p hp).2;simpa[Tn]using this,by omega⟩,g2,by omega,?_⟩
 ·rw[wps,ab1];exact⟨List.all_eq_true.mpr fun p hp=>(g1 p hp).1,decide_eq_true (by omega)⟩
 ·have r2:L (k+2) .B_ [cv cs,.ref 0,av A,.int c] [J2 n m]=match fV (F (k+1)) (L (k+1)) [some (cv cs),some (.ref 0),some (av A),some (.int c)] [J2 n m]with|.nx _ h1=>fQ 1 .non h1|.rt v h1=>dq 1 v h1|_=>.bad:=rfl
  have cp:bX [2,0,1] [some (cv cs),some (.ref 0),some (av A),some (.int c)]=[some (av A),some (cv cs),some (.ref 0)]:=rfl;rw[r2];simp only[EY,fV,bc,l3,cp,g4,AU];exact uP (by rw[PV.pure];exact aL ps) (bx _ _)
theorem qb(k:Nat)(A:At)(xs:List (List Nat))(hl:A.ns.length+xs.length≤100000):F (k+1) .K1 [av A,nms xs]=.ok (av { A with ns:=A.ns++xs }):=by
 have r2:F (k+1) .K1 [av A,nms xs]=match iR (F k) [some (av A),some (nms xs),none] []with
   |.nx _ _=>.ok .non
   |.rt v h=>di v h
   |_=>.bad:=rfl
 have an:=lT A.ns xs [PO.dct [(.inr kN,nms A.ns),(.inr kP,.lst (A.ps.map Ob)),(.inr kH,J3 A.h),(.inr kM,Pr A.ms)]] hl;have dm:oS [av A] []=.ok (.ref 0) [.dct [(.inr kN,nms A.ns),(.inr kP,.lst (A.ps.map Ob)),(.inr kH,J3 A.h),(.inr kM,Pr A.ms)]]:=rfl;rw[r2];have z4:(4<16777216)=True:=by decide
 have fz:Zm (.ref 0) [.dct (kY [(.inr kN,nms A.ns),(.inr kP,.lst (A.ps.map Ob)),(.inr kH,J3 A.h),(.inr kM,Pr A.ms)] (.inr kN) (nms (A.ns++xs)))]=.ok (av { A with ns:=A.ns++xs }) [.J7 (av { A with ns:=A.ns++xs })]:=by
  have e:kY [(.inr kN,nms A.ns),(.inr kP,.lst (A.ps.map Ob)),(.inr kH,J3 A.h),(.inr kM,Pr A.ms)] (.inr kN) (nms (A.ns++xs))=[(.inr kN,nms (A.ns++xs)),(.inr kP,.lst (A.ps.map Ob)),(.inr kH,J3 A.h),(.inr kM,Pr A.ms)]:=rfl;rw[e];have pp:dL [((Sum.inr kN:Int ⊕ List Nat),nms (A.ns++xs)),(.inr kP,.lst (A.ps.map Ob)),(.inr kH,J3 A.h),(.inr kM,Pr A.ms)]=true:=by simp[dL,PV.pure,bh,mB,oX,oY]
  show(match(if dL _=true then some (PV.dct _,[PO.J7 (PV.dct _)])else none)with|some (q,h2)=>Res.ok q h2|none=>.bad)=_;rw[if_pos pp];rfl
 simp only[EY,iR,dm,an,z4,fz];exact bz (fW _)
theorem EA{P:List Pe}{p:Pe}(h:(P.map (·.n)).Nodup)(hp:p∈P):Vz P p.n=some p:=by
 unfold Vz
 induction P with
 |nil=>cases hp
 |cons q r ih=>
  rw[List.map_cons,List.nodup_cons]at h;rcases List.mem_cons.mp hp with z|z
  ·subst z;rw[List.find?_cons_of_pos (by simp)]
  ·rw[List.find?_cons_of_neg,ih h.2 z];intro e;rw[eq_of_beq e]at h;exact h.1 (List.mem_map.mpr ⟨p,z,rfl⟩)
theorem Ii{l:List (List Nat)}(h:l.Nodup){a b:Option Int}:(cut l a b).Nodup:=by unfold cut;exact List.Sublist.nodup ((List.take_sublist _ _).trans (List.drop_sublist _ _)) h
theorem Ij{l:List (List Nat)}(hl:l.length=12){a b:Int}(a0:0≤a)(a1:a<9)(b0:0≤b)(b1:b≤3):(cut l (some a) (some (a+b))).length=b.toNat:=by obtain⟨a,rfl⟩:=Int.eq_ofNat_of_zero_le a0;obtain⟨b,rfl⟩:=Int.eq_ofNat_of_zero_le b0;unfold cut;rw[show((a:Int)+(b:Int))=((a+b:Nat):Int) by omega,HT.Rx,HT.Rx,List.length_take,List.length_drop,hl,Nat.min_eq_left (by clear hl;omega),Nat.min_eq_left (by clear hl;omega),Nat.min_eq_left (by clear hl;omega),Nat.add_sub_cancel_left];rfl
noncomputable def M9:List Nd→j8
 |[]=>.nil
 |n::r=>.cons n (M9 r)
theorem gG:∀l:List Nd,d9 (M9 l)=l.map nd
 |[]=>by rw[M9,d9];rfl
 |n::r=>by rw[M9,d9,gG r];rfl
theorem iO:∀l:List Nd,J5 (M9 l)=Tq l
 |[]=>by rw[M9,J5];rfl
 |n::r=>by rw[M9,J5,iO r];unfold Tq;rw[List.map_cons,List.sum_cons]
theorem Rw.d9{kn:Cx}{d c t:Nat}:∀{l:List Nd},Rw kn d c t l→wS (M9 l)=true∧Pz kn (M9 l)=true∧dS (M9 l)≤d
 |[],_=>⟨rfl,rfl,Nat.zero_le _⟩
 |n::r,h=>by
  have e1:Tq (n::r)=Ph n+1+Tq r:=by unfold Tq;rw[List.map_cons,List.sum_cons]
  have e2:Tg (n::r)=Wh n+Tg r:=by unfold Tg;rw[List.map_cons,List.sum_cons]
  have hc:=h.c;have ht:=h.t;obtain⟨a,b,e⟩:=Rw.d9 (kn:=kn) (d:=d) (c:=c) (t:=t) (l:=r) ⟨fun z hz=>h.w z (List.mem_cons_of_mem _ hz),by omega,by omega⟩;obtain⟨w1,w2,w3⟩:=h.w n List.mem_cons_self;rw[M9,wS,Pz,dS,w1,w2,a,b];exact⟨rfl,rfl,Nat.max_le.mpr ⟨w3,e⟩⟩
noncomputable def gg:Nat→Nat
 |0=>3
 |d+1=>3 * (1+2 * gg d)
def gn:Nat→Nat
 |0=>1
 |d+1=>1+2 * gg d
noncomputable def cg:Nat→Nat
 |0=>19
 |d+1=>1+3 * (6+2 * cg d)
def cn:Nat→Nat
 |0=>6
 |d+1=>6+2 * cg d
theorem JU(d:Nat):gg d=3 * gn d:=by cases d<;>rfl
theorem FV(d:Nat):cg d=1+3 * cn d:=by cases d<;>rfl
structure NR(kn:Cx)(D:Nat)(x:Nd):Prop where
 w:wN x=true
 u:okN kn x=true
 d:dN x≤D
 c:Ph x+1≤gn D
 t:Wh x≤4
theorem ph:∀d:Nat,1≤gn d
 |0=>ab2 _
 |d+1=>Nat.le_add_right _ _
def jQ(d:Nat):Prop:=∀(K:Nat)(cs:List Int)(A:At)(j:Nat)(n m:Int),3 * d+6≤K→cs.length≤63→Vn j A→j+12 * d≤100→0≤n→n+cg d≤1900000→
 ∃l n',Rw (UL A) d (gg d) 12 l∧n≤n'∧n'≤n+cg d∧L K .v5 [cv cs,.ref 0,av A,.int d] [J2 n m]=.ok (.tup (l.map nd)) [J2 n' m]
theorem eL{d:Nat}(ok:jQ d)(K:Nat)(cs:List Int)(A:At)(j:Nat)(n m:Int)(hK:3 * d+6≤K)(hc:cs.length≤63)(hA:Vn j A)(hj:j+12 * d≤100)(h0:0≤n)(h1:n+cg d≤1900000)(r:List PO):
  ∃l n',Rw (UL A) d (gg d) 12 l∧n≤n'∧n'≤n+cg d∧bY (L K .v5) [cv cs,.ref 0,av A,.int d] (J2 n m::r)=.ok (.tup (l.map nd)) (J2 n' m::r):=by
 obtain⟨l,n',a,b,c,e⟩:=ok K cs A j n m hK hc hA hj h0 h1;exact⟨l,n',a,b,c,dg (fn:=L K .v5) [cv cs] [av A,.int d] (by rw[ah,iN];rfl) (by simp[ah,fW,PV.pure]) rfl (bx _ _) e (by rw[PV.pure];exact fD l) (bx _ _)⟩
theorem Es{l:List PV}(hl:fds 59 l)(h:List PO):Ry (.tup l) (.tup []) h=.ok (.bl (!l.isEmpty)) h:=by
 have ok:PB h (.tup l)=true:=by unfold PB Qm;have:=hl.2.1;simp only[toD,PyData.canLay0,PyData.depth,hl.1,Bool.true_and,decide_eq_true_eq];omega
 unfold Ry;rw[if_pos ⟨ok,rfl⟩]
 cases l<;>rfl
theorem yi{l:List PV}(hl:fds 59 l)(h:List PO):M8 (.tup l) (.tup []) h=.ok (.bl l.isEmpty) h:=by
 have ok:PB h (.tup l)=true:=by unfold PB Qm;have:=hl.2.1;simp only[toD,PyData.canLay0,PyData.depth,hl.1,Bool.true_and,decide_eq_true_eq];omega
 unfold M8;rw[if_pos ⟨ok,rfl⟩]
 cases l<;>rfl
theorem BO{l:List (List Nat)}(hs:Oq l=true)(h:List PO):Ry (nms l) (.tup []) h=.ok (.bl (!l.isEmpty)) h:=by unfold nms;rw[Es (hZ hs),List.isEmpty_map]
theorem Ep{l:List (List Nat)}(hs:Oq l=true)(h:List PO):M8 (nms l) (.tup []) h=.ok (.bl l.isEmpty) h:=by unfold nms;rw[yi (hZ hs),List.isEmpty_map]
theorem Vn.more{j:Nat}{A:At}(h:Vn j A)(xs:List (List Nat))(hs:Oq xs=true)(hl:xs.length≤12):Vn (j+12) { A with ns:=A.ns++xs }:=
 ⟨kR h.n hs,by show(A.ns++xs).length≤_;rw[List.length_append];have:=h.l;omega,h.pl,h.p,h.h,h.ml,h.m,h.mn,h.pn⟩
theorem oP(K:Nat){j:Nat}(cs:List Int)(hc:cs.length≤63)(A:At)(hA:Vn j A)(lj:j≤1000)(c:Int)(c0:0≤c)(c4:c≤4)(hn:c=0∨A.ns≠ [])(n m:Int)(h0:0≤n)(h1:n≤1900000):
  ∃ps n',(wps ps=true∧Tn (UL A) ps=true∧(ps.length:Int)=c)∧n≤n'∧n'≤n+4∧bY (L (K+2) .B_) [cv cs,.ref 0,av A,.int c] [J2 n m]=.ok (.tup (dR ps)) [J2 n' m]:=by
 obtain⟨ps,n',a,b,c',e⟩:=uw K cs hc A hA lj c c0 c4 hn n m h0 h1;exact⟨ps,n',a,b,c',dg (fn:=L (K+2) .B_) [cv cs] [av A,.int c] (by rw[ah,iN];rfl) (by simp[ah,fW,PV.pure]) rfl (bx _ _) e (by rw[PV.pure];exact aL ps) (bx _ _)⟩
theorem Cv{l:List Pe}(h:∀p∈l,sg p.n=true):fds 59 (l.map Ob):=by
 induction l with
 |nil=>exact cL _
 |cons a r ih=>
  refine aH (bI (cI (d:=1) (aH (cY (h a List.mem_cons_self)) (aH (sN _ _) (aH ?_ (cL _))))) (by decide)) (ih fun p hp=>h p (List.mem_cons_of_mem _ hp))
  cases a.h with
  |none=>exact wx _
  |some i=>exact sN _ i
theorem vq(d:Nat)(ok:jQ d)(K:Nat)(cs:List Int)(A:At)(j:Nat)(n m more:Int)(hK:3 * d+6≤K)(hc:cs.length≤63)(hA:Vn j A)(hj:j+12 * (d+1)≤100)(h0:0≤n)(h1:n+4+cg d≤1900000)(lp:A.ps.length≤1000):
  ∃x n',NR (UL A) (d+1) x∧n≤n'∧n'≤n+4+cg d∧L (K+1) .K4 [cv cs,.ref 0,av A,.int ((d+1:Nat):Int),.int more] [J2 n m]=.ok (nd x) [J2 n' m]:=by
 have r2:∀x,dQ (F K) (L K) [some (cv cs),some (.ref 0),some (av A),some (.int ((d+1:Nat):Int)),some (.int more),none,none,none,none,none,none,none] [J2 n m]=x→L (K+1) .K4 [cv cs,.ref 0,av A,.int ((d+1:Nat):Int),.int more] [J2 n m]=match x with|.nx _ h1=>fQ 1 .non h1|.rt v h1=>dq 1 v h1|_=>.bad:=fun x e=>by subst e;rfl
 have lq:(A.ps.map Ob).length<16777216:=by rw[List.length_map];omega
 have cm:∀ ρ h,bX [2] ρ=[some (av A)]→bv (eS (F K)) (eV (F K)) (bX [2] ρ) (A.ps.map Ob) h=.ok ((A.ps.filter fun p=>decide ((p.m:Int)=0)||!A.ns.isEmpty).map Ob) h:=fun ρ h hc=>by
  rw[hc];refine pk Ob (fun p=>decide ((p.m:Int)=0)||!A.ns.isEmpty) Ob A.ps (fun p hp=>?_) fun p hp=>?_
  ·have i1:b_ (Ob p) (.int 1) h=.ok (.int p.m) h:=rfl;have dp:aj h (Ob p)=Ob p:=rfl;have nn:=BO hA.n h
   cases e:decide ((p.m:Int)=0)<;>simp only[EY,eS,dp,i1,e,nn]
  ·have dp:aj h (Ob p)=Ob p:=rfl;simp only[EY,eV,dp]
 have hf:∀p∈A.ps.filter (fun p=>decide ((p.m:Int)=0)||!A.ns.isEmpty),p∈A.ps∧((p.m:Int)=0∨A.ns≠ []):=fun p hp=>by
  obtain⟨a,b⟩:=List.mem_filter.mp hp;refine⟨a,?_⟩;rw[Bool.or_eq_true,decide_eq_true_eq]at b;rcases b with b|b
  ·exact .inl b
  ·exact .inr (by intro z;rw[z]at b;cases b)
 have en:∀h,M8 (.lst ((A.ps.filter fun p=>decide ((p.m:Int)=0)||!A.ns.isEmpty).map Ob)) (.lst []) h=.ok (.bl ((A.ps.filter fun p=>decide ((p.m:Int)=0)||!A.ns.isEmpty).map Ob).isEmpty) h:=fun h=>EW (Cv fun p hp=>(hA.p p (hf p hp).1).1) h;generalize A.ps.filter (fun p=>decide ((p.m:Int)=0)||!A.ns.isEmpty)=fl at cm hf en;have Wd:∀(x:Option PV) h,bv (eS (F K)) (eV (F K)) (bX [2] [some (cv cs),some (.ref 0),some (av A),some (.int ((d+1:Nat):Int)),some (.int more),none,none,none,none,none,none,none]) (A.ps.map Ob) h=.ok (fl.map Ob) h:=fun _ h=>cm _ h rfl;have d0:∀(n:Int),aj [J2 n m] (.ref 0)=.ref 0:=fun n=>rfl;have Zt:=FV d
 cases fl with
 |nil=>simp only[List.map_nil,List.isEmpty_nil]at Wd en;refine⟨.text [110,111,110,101],n,⟨by rw[wN];rfl,rfl,Nat.zero_le _,ph _,by show 4≤4;omega⟩,by omega,by omega,?_⟩;rw[r2 _ rfl];simp only[EY,dQ,lq,Wd none,en];rw[nd];exact uP rfl (bx _ _)
 |cons p0 r0=>
  have Wa:(0:Int)<((p0::r0).length:Nat):=by rw[List.length_cons];omega
  obtain⟨q0,q1⟩:=bL more Wa;have hi:(more % ((p0::r0).length:Nat)).toNat<(p0::r0).length:=by omega
  obtain⟨p,hp,ip⟩:∃p∈p0::r0,∀h,b_ (.lst ((p0::r0).map Ob)) (.int (more % ((p0::r0).length:Nat))) h=.ok (Ob p) h:=by refine⟨(p0::r0)[(more % ((p0::r0).length:Nat)).toNat],List.getElem_mem hi,fun h=>?_⟩;rw[xZ,dj (v:=Ob ((p0::r0)[(more % ((p0::r0).length:Nat)).toNat])) q0 (by rw[List.getElem?_map,List.getElem?_eq_getElem hi];rfl)];rfl
  obtain⟨hm,hz⟩:=hf p hp;obtain⟨p1,p2,p3⟩:=hA.p p hm;have hl:∀h,cV [.lst ((p0::r0).map Ob)] h=.ok (.int ((p0::r0).length:Nat)) h:=fun h=>by rw[JF,List.length_map]
  have pz:decide ((0:Int)<((p0::r0).length:Nat))=true:=decide_eq_true Wa;have e0:((p0::r0).map Ob).isEmpty=false:=rfl;rw[e0]at en;generalize(p0::r0).map Ob=fv at Wd en ip hl;generalize(((p0::r0).length:Nat):Int)=fn at ip hl pz;obtain⟨K',rfl⟩:∃K',K=K'+2:=⟨K - 2,by omega⟩
  obtain⟨ps,n1,⟨w1,w1o,w1l⟩,w2,w3,w4⟩:=oP K' cs hc A hA (by omega) p.m (by omega) (by omega) hz n m h0 (by omega);have kn:Vz A.ps p.n=some p:=EA hA.pn hm;have kl:p.m=ps.length:=by omega
  have dp:∀h,aj h (PV.tup (dR ps))=.tup (dR ps):=fun _=>rfl
  cases hh:p.h with
  |none=>refine⟨.use p.n ps,n1,⟨by rw[wN,p1,w1];rfl,by rw[okN,w1o,Vf];show(true&&match Vz A.ps p.n with|none=>false|some p=>decide (p.m=ps.length)&&decide (p.h=none))=true;rw[kn];simp[kl,hh],Nat.zero_le _,ph _,Nat.zero_le _⟩,w2,by omega,?_⟩;rw[r2 _ rfl];simp only[EY,dQ,lq,Wd none,en,hl,pz,ip];simp only[EY,Ob,hh,J3,d0,w4,dp];rw[nd];exact uP (by simp[PV.pure,ah,aL]) (bx _ _)
  |some i=>
   let xs:=cut A.ms (some (more / 8 % 9)) (some (more / 8 % 9+i));have sx:Oq xs=true:=rB hA.m fun x hx=>jJ hx;have lx:xs.length≤12:=by have:=jK A.ms (some (more / 8 % 9)) (some (more / 8 % 9+i));rw[hA.ml]at this;exact this
   obtain⟨l,n2,g1,g2,g3,g4⟩:=eL ok (K'+2) cs { A with ns:=A.ns++xs } (j+12) n1 m hK hc (hA.more xs sx lx) (by omega) (by omega) (by omega) [];obtain⟨e1,e2,e3⟩:=g1.d9
   have xl:xs.length=i.toNat:=by have f0:=bL (more / 8) (by decide:(0:Int)<9);have hi:=p3;rw[hh]at hi;have:=hi.1;have:=hi.2;exact Ij hA.ml (by omega) (by omega) (by omega) (by omega)
   have xd:dup xs=false:=(wD xs).mpr (Ii hA.mn);have i0:(xs.length:Int)=i:=by have hi:=p3;rw[hh]at hi;have:=hi.1;omega
   have sl:∀h,lg (Pr A.ms) (some (more / 8 % 9)) (some (more / 8 % 9+i)) h=.ok (Pr xs) h:=fun h=>by unfold Pr;rw[IU,lN]
   have tp:∀h,fM [Pr xs] h=.ok (nms xs) h:=fun h=>rfl;have wi:∀h,bg (F (K'+2) .K1) [av A,nms xs] h=.ok (av { A with ns:=A.ns++xs }) h:=fun h=>aN h (by simp[ah,fW,bh]) (qb (K'+1) A xs (by have:=hA.l;omega));have dd:((d+1:Nat):Int) - 1=(d:Int):=by omega
   refine⟨.j6 p.n ps xs (M9 l),n2,⟨by rw[wN,p1,w1,sx,decide_eq_true (show xs.length<60 by omega),e1];rfl,by rw[okN,w1o,Vf];show(true&&((match Vz A.ps p.n with|none=>false|some p=>decide (p.m=ps.length)&&decide (p.h=some (xs.length:Int)))&&_))=true;rw[kn,xd];simp[kl,hh,i0];exact e2,by rw[dN];omega,?_,Nat.zero_le _⟩,by omega,by omega,?_⟩
   ·rw[Ph,iO];have:=g1.c;show Tq l+1≤1+2 * gg d;omega
   ·rw[r2 _ rfl];simp only[EY,dQ,lq,Wd none,en,hl,pz,ip];simp only[EY,Ob,hh,J3,d0,w4,dp,sl,tp,wi,dd,g4];rw[nd,gG];exact uP (by simp[PV.pure,ah,aL,bh,fD]) (bx _ _)
theorem wa(d:Nat)(ok:∀e,e+1=d→jQ e)(K:Nat)(cs:List Int)(A:At)(j:Nat)(n m:Int)(hK:3 * d+4≤K)(hc:cs.length≤63)(hA:Vn j A)(hj:j+12 * d≤100)(h0:0≤n)(h1:n+cn d≤1900000):
  ∃x n',NR (UL A) d x∧n≤n'∧n'≤n+cn d∧L (K+1) .K5 [cv cs,.ref 0,av A,.int d] [J2 n m]=.ok (nd x) [J2 n' m]:=by
 obtain⟨K',rfl⟩:∃K',K=K'+2:=⟨K - 2,by omega⟩
 have cn6:6≤cn d:=by cases d with
  |zero=>exact ab2 _
  |succ d=>exact Nat.le_add_right _ _
 obtain⟨v,v0,v1,ce⟩:=ge (K'+1) cs hc n m h0 (by omega) [];have d0:∀(n:Int),aj [J2 n m] (.ref 0)=.ref 0:=fun n=>rfl;have i0:∀(n:Int),b_ (.ref 0) (.int 0) [J2 n m]=.ok (.int n) [J2 n m]:=fun n=>rfl;have i1:∀(n:Int),b_ (.ref 0) (.int 1) [J2 n m]=.ok (.int m) [J2 n m]:=fun n=>rfl
 have s4:aI 4 (c2 dU (aT ((L (K'+2)) .J6) aaX) aae) [some (cv cs),some (.ref 0),some (av A),some (.int d),none,none,none,none,none,none,none] [J2 n m]=.nx [some (cv cs),some (.ref 0),some (av A),some (.int d),some (.int (v / 3)),none,none,none,none,none,none] [J2 (n+1) m]:=by simp only[EY,d0,ce]
 have s5:aI 5 (c2 bP (af 4) abv) [some (cv cs),some (.ref 0),some (av A),some (.int d),some (.int (v / 3)),none,none,none,none,none,none] [J2 (n+1) m]=.nx [some (cv cs),some (.ref 0),some (av A),some (.int d),some (.int (v / 3)),some (.int (v / 3 % 9)),none,none,none,none,none] [J2 (n+1) m]:=by simp only[EY,if_true]
 have s6:aI 6 (c2 dU (af 4) abv) [some (cv cs),some (.ref 0),some (av A),some (.int d),some (.int (v / 3)),some (.int (v / 3 % 9)),none,none,none,none,none] [J2 (n+1) m]=.nx [some (cv cs),some (.ref 0),some (av A),some (.int d),some (.int (v / 3)),some (.int (v / 3 % 9)),some (.int (v / 3 / 9)),none,none,none,none] [J2 (n+1) m]:=by simp only[EY,if_true]
 obtain⟨κ,k0,k1,k2,s7⟩:∃ κ:Int,0≤κ∧κ≤8∧(d=0→κ<3)∧NP aa8 abX bG [some (cv cs),some (.ref 0),some (av A),some (.int d),some (.int (v / 3)),some (.int (v / 3 % 9)),some (.int (v / 3 / 9)),none,none,none,none] [J2 (n+1) m]=.nx [some (cv cs),some (.ref 0),some (av A),some (.int d),some (.int (v / 3)),some (.int κ),some (.int (v / 3 / 9)),none,none,none,none] [J2 (n+1) m]:=by
  have a1:=bL (v / 3) (by decide:(0:Int)<9);have a2:=bL (v / 3 % 9) (by decide:(0:Int)<3)
  cases c1:decide (n+1>m)with
  |true=>exact⟨v / 3 % 9 % 3,by omega,by omega,fun _=>by omega,by simp only[EY,d0,i0,i1,c1]⟩
  |false=>
   cases c2:decide ((d:Int)<1)with
   |true=>exact⟨v / 3 % 9 % 3,by omega,by omega,fun _=>by omega,by simp only[EY,d0,i0,i1,c1,c2]⟩
   |false=>have:=of_decide_eq_false c2;exact⟨v / 3 % 9,by omega,by omega,fun z=>by omega,by simp only[EY,d0,i0,i1,c1,c2]⟩
 have fin:∀(x:Nd)(n':Int),dq 1 (nd x) [J2 n' m]=.ok (nd x) [J2 n' m]:=fun x n'=>uP (bH x) (bx _ _);have r2:∀T,fG (F (K'+2)) (L (K'+2)) [some (cv cs),some (.ref 0),some (av A),some (.int d),none,none,none,none,none,none,none] [J2 n m]=T→L (K'+2+1) .K5 [cv cs,.ref 0,av A,.int d] [J2 n m]=match T with|.nx _ h1=>fQ 1 .non h1|.rt v h1=>dq 1 v h1|_=>.bad:=fun T e=>by subst e;rfl
 suffices S:∃x n',NR (UL A) d x∧n≤n'∧n'≤n+cn d∧fG (F (K'+2)) (L (K'+2)) [some (cv cs),some (.ref 0),some (av A),some (.int d),none,none,none,none,none,none,none] [J2 n m]=.rt (nd x) [J2 n' m] by obtain⟨x,n',a,b,c,e⟩:=S;exact⟨x,n',a,b,c,by rw[r2 _ e];exact fin x n'⟩
 unfold fG;rw[cC,s4];dsimp only;rw[cC,s5];dsimp only;rw[cC,s6];dsimp only;rw[cC,s7];dsimp only;have nn:=BO hA.n;have ne:=Ep hA.n
 have ZQ:∀(l:List (List Nat))(i:Int),Oq l=true→0≤i→i<l.length→∃s∈l,sg s=true∧O8 (l.map PV.str) i=some (.str s):=fun l i hs h0 h1=>by
  have hi:i.toNat<l.length:=by omega
  exact⟨l[i.toNat],List.getElem_mem hi,List.all_eq_true.mp hs _ (List.getElem_mem hi),dj h0 (by rw[List.getElem?_map,List.getElem?_eq_getElem hi];rfl)⟩
 have t6:=bL (v / 3 / 9) (by decide:(0:Int)<6);obtain⟨s,sm,_,st⟩:=ZQ [[97],[123],[10],[60,98,62],[125,125],[32,126]] (v / 3 / 9 % 6) (by decide) t6.1 t6.2;simp only[List.map_cons,List.map_nil]at st
 have sl:sg s=true∧s.length≤4:=by
  have:∀x∈([[97],[123],[10],[60,98,62],[125,125],[32,126]]:List (List Nat)),sg x=true∧x.length≤4:=by decide
  exact this s sm
 have txt:NR (UL A) d (.text s):=⟨by rw[wN];exact sl.1,rfl,Nat.zero_le _,ph _,sl.2⟩
 have Y6:nd (.text s)=.tup [.str tT,.str s]:=by rw[nd]
 by_cases c1:κ>5∧κ<8
 ·have b1:decide (κ>5)=true:=decide_eq_true c1.1;have b2:decide (κ<8)=true:=decide_eq_true c1.2;obtain⟨e,rfl⟩:∃e,d=e+1:=⟨d - 1,by have:=k2;omega⟩
  have ec:cn (e+1)=6+2 * cg e:=rfl;obtain⟨x,n',a,b,c,u⟩:=vq e (ok e rfl) (K'+1) cs A j (n+1) m (v / 3 / 9) (by omega) hc hA (by omega) (by omega) (by omega) hA.pl;have cu:=dg (fn:=L (K'+1+1) .K4) [cv cs] [av A,.int ((e+1:Nat):Int),.int (v / 3 / 9)] (h:=[J2 (n+1) m]) (i:=0) (by rw[ah,iN];rfl) (by simp[ah,fW,PV.pure]) rfl (bx _ _) u (bH x) (bx _ _);simp only[List.cons_append,List.nil_append,List.set_cons_zero]at cu;exact⟨x,n',a,by omega,by omega,by simp only[EY,b1,b2,d0,cu]⟩
 by_cases c8:κ=8
 ·have b1:decide (κ>5)=true:=decide_eq_true (by omega);have b2:decide (κ<8)=false:=decide_eq_false (by omega);have b8:decide (κ=8)=true:=decide_eq_true c8;have b0:decide (κ=0)=false:=decide_eq_false (by omega)
  cases hh:A.h with
  |none=>refine⟨.text s,n+1,txt,by omega,by omega,?_⟩;simp only[EY,b1,b2,b8,b0,hh,J3,st,Y6]
  |some i=>
   have ho:=hA.h;rw[hh]at ho
   by_cases ci:i=0∨A.ns≠ []
   ·obtain⟨ps,n',⟨a,ao,al⟩,b,c,e⟩:=oP K' cs hc A hA (by omega) i ho.1 (by have:=ho.2;omega) ci (n+1) m (by omega) (by omega);refine⟨.body ps,n',⟨by rw[wN];exact a,by rw[okN,ao];show(true&&decide (A.h=some (ps.length:Int)))=true;rw[hh,al];simp,Nat.zero_le _,ph _,Nat.zero_le _⟩,by omega,by omega,?_⟩;have nb:nd (.body ps)=.tup [.str tB,.tup (dR ps)]:=by rw[nd]
    have hs:(decide (i=0)||!A.ns.isEmpty)=true:=by
     rcases ci with z|z
     ·simp[z]
     ·rw[show A.ns.isEmpty=false by cases h:A.ns<;>simp_all];simp
    cases z0:decide (i=0)with
    |true=>simp only[EY,b1,b2,b8,hh,J3,z0,d0,e,nb]
    |false=>rw[z0,Bool.false_or]at hs;simp only[EY,b1,b2,b8,hh,J3,z0,nn,hs,d0,e,nb]
   ·have hz0:decide (i=0)=false:=decide_eq_false fun z=>ci (.inl z)
    have hs:(!A.ns.isEmpty)=false:=by
     cases h:A.ns with
     |nil=>rfl
     |cons a r=>exact(ci (.inr (by rw[h];simp))).elim
    refine⟨.text s,n+1,txt,by omega,by omega,?_⟩;simp only[EY,b1,b2,b8,b0,hh,J3,hz0,nn,hs,st,Y6]
 have b8:decide (κ=8)=false:=decide_eq_false c8;have b5:decide (κ>5)=false:=decide_eq_false fun z=>c1 ⟨z,by omega⟩
 by_cases c0:κ=0
 ·have b0:decide (κ=0)=true:=decide_eq_true c0;refine⟨.text s,n+1,txt,by omega,by omega,?_⟩;simp only[EY,b5,b8,b0,st,Y6]
 have b0:decide (κ=0)=false:=decide_eq_false c0
 by_cases cs0:A.ns= []
 ·have hs:A.ns.isEmpty=true:=by rw[cs0];rfl
  refine⟨.text s,n+1,txt,by omega,by omega,?_⟩;simp only[EY,b5,b8,b0,ne,hs,st,Y6]
 have hs:A.ns.isEmpty=false:=by cases h:A.ns<;>simp_all
 obtain⟨v',_,_,Yz⟩:=ge (K'+1) cs hc (n+1) m (by omega) (by omega) [];obtain⟨p,⟨ZF,ZJ⟩,pe⟩:=oQ (K'+1) A hA cs0 (by omega) v';have cp:∀h,bg (F (K'+2) .G7) [.int v',av A] h=.ok (QV p) h:=fun h=>aN h (by simp[ah,PV.pure,fW]) pe
 by_cases c3:κ<3
 ·have b3:decide (κ<3)=true:=decide_eq_true c3;have t5:=bL (v / 3 / 9) (by decide:(0:Int)<5);obtain⟨w,_,wm,wt⟩:=ZQ [[119,111,114,100],[110,117,109,98,101,114],[113,117,111,116,101,100],[112,108,97,105,110],[108,105,110,101]] (v / 3 / 9 % 5) (by decide) t5.1 t5.2;simp only[List.map_cons,List.map_nil]at wt;refine⟨.place p w,n+1+1,⟨by rw[wN,ZF,wm];rfl,by rw[okN];exact ZJ,Nat.zero_le _,ph _,Nat.zero_le _⟩,by omega,by omega,?_⟩;have np:nd (.place p w)=.tup [.str tP,QV p,.str w]:=by rw[nd]
  simp only[EY,b5,b8,b0,ne,hs,d0,Yz,cp,b3,wt,np]
 have b3:decide (κ<3)=false:=decide_eq_false c3;obtain⟨e,rfl⟩:∃e,d=e+1:=⟨d - 1,by have:=k2;omega⟩
 have ec:cn (e+1)=6+2 * cg e:=rfl;have gc:gn (e+1)=1+2 * gg e:=rfl;have dd:((e+1:Nat):Int) - 1=(e:Int):=by omega
 by_cases c5:κ<5
 ·have b55:decide (κ<5)=true:=decide_eq_true c5;have XD:=bL (v / 3 / 9) (by decide:(0:Int)<12);obtain⟨x,xs,xi,_⟩:=wd hA.ml hA.m _ XD.1 XD.2;have t3:=bL (v / 3 / 9 / 12) (by decide:(0:Int)<3);obtain⟨w,_,wm,wt⟩:=ZQ [[],[44,32],[10]] (v / 3 / 9 / 12 % 3) (by decide) t3.1 t3.2;simp only[List.map_cons,List.map_nil]at wt;obtain⟨l,n',g1,g2,g3,g4⟩:=eL (ok e rfl) (K'+2) cs { A with ns:=A.ns++ [x] } (j+12) (n+1+1) m (by omega) hc (hA.more [x] (by simp[Oq,xs]) (by simp)) (by omega) (by omega) (by omega) [];obtain⟨e1,e2,e3⟩:=g1.d9;have wi:∀h,bg (F (K'+2) .K1) [av A,.tup [.str x]] h=.ok (av { A with ns:=A.ns++ [x] }) h:=fun h=>aN h (by simp[ah,fW,PV.pure]) (qb (K'+1) A [x] (by have:=hA.l;simp;omega));refine⟨.loop x p (M9 l) w,n',⟨by rw[wN,xs,ZF,e1,wm];rfl,by rw[okN,ZJ];exact e2,by rw[dN];omega,by rw[Ph,iO,gc];have:=g1.c;omega,Nat.zero_le _⟩,by omega,by omega,?_⟩;have np:nd (.loop x p (M9 l) w)=.tup [.str tL,.str x,QV p,.tup (l.map nd),.str w]:=by rw[nd,gG]
  simp only[EY,b5,b8,b0,ne,hs,d0,Yz,cp,b3,b55,xi,wi,dd,g4,wt,np]
 have b55:decide (κ<5)=false:=decide_eq_false c5;obtain⟨y,n2,g1,g2,g3,g4⟩:=eL (ok e rfl) (K'+2) cs A j (n+1+1) m (by omega) hc hA (by omega) (by omega) (by omega) [];obtain⟨z,n3,f1,f2,f3,f4⟩:=eL (ok e rfl) (K'+2) cs A j n2 m (by omega) hc hA (by omega) (by omega) (by omega) [];obtain⟨e1,e2,e3⟩:=g1.d9;obtain⟨u1,u2,u3⟩:=f1.d9;refine⟨.choice p (M9 y) (M9 z),n3,⟨by rw[wN,ZF,e1,u1];rfl,by rw[okN,ZJ,e2,u2];rfl,by rw[dN];omega,by rw[Ph,iO,iO,gc];have:=g1.c;have:=f1.c;omega,Nat.zero_le _⟩,by omega,by omega,?_⟩;have np:nd (.choice p (M9 y) (M9 z))=.tup [.str tC,QV p,.tup (y.map nd),.tup (z.map nd)]:=by rw[nd,gG,gG]
 simp only[EY,b5,b8,b0,ne,hs,d0,Yz,cp,b3,b55,dd,g4,f4,np]
theorem Rw.of{kn:Cx}{d:Nat}:∀{l:List Nd},(∀x∈l,NR kn d x)→Rw kn d (gn d * l.length) (4 * l.length) l
 |[],_=>⟨fun x hx=>(by cases hx),by simp[Tq],by simp[Tg]⟩
 |n::r,h=>by
  have ih:=Rw.of fun x hx=>h x (List.mem_cons_of_mem _ hx);have hn:=h n List.mem_cons_self;have e1:Tq (n::r)=Ph n+1+Tq r:=by unfold Tq;rw[List.map_cons,List.sum_cons]
  have e2:Tg (n::r)=Wh n+Tg r:=by unfold Tg;rw[List.map_cons,List.sum_cons]
  refine⟨fun x hx=>?_,?_,?_⟩
  ·rcases List.mem_cons.mp hx with q|q
   ·subst q;exact⟨hn.w,hn.u,hn.d⟩
   ·exact ih.w x q
  ·rw[e1,List.length_cons,Nat.mul_add];have:=ih.c;have:=hn.c;omega
  ·rw[e2,List.length_cons];have:=ih.t;have:=hn.t;omega
theorem pf(d:Nat)(hd:d≤4)(ok:∀e,e+1=d→jQ e):jQ d:=fun K cs A j n m hK hc hA hj h0 h1=>by
 obtain⟨K',rfl⟩:∃K',K=K'+2:=⟨K - 2,by omega⟩
 have c1:=FV d;have g1:=JU d;obtain⟨v,v0,v1,ce⟩:=ge K' cs hc n m h0 (by omega) [];have t4:=bL (v / 5) (by decide:(0:Int)<4);generalize hr:v / 5 % 4=r at t4;have bc:RM 4611686018427387904 r=true:=bR.mpr ⟨by omega,by omega⟩;have l3:((List.range r.toNat).map fun i=>PV.int (0+(i:Nat))).length<16777216:=by rw[List.length_map,List.length_range];omega
 have lr:(List.range r.toNat).length≤3:=by rw[List.length_range];omega
 have d0:∀(n:Int),aj [J2 n m] (.ref 0)=.ref 0:=fun n=>rfl;have cnn:(0:Int)≤cn d:=by omega
 have cl:(cn d:Int) * ((List.range r.toNat).length:Nat)≤cn d * 3:=Int.mul_le_mul_of_nonneg_left (by omega) cnn
 obtain⟨ys,n',y0,y1,y2,y3,y4⟩:=sO (te:=jw (F (K'+1)) (L (K'+1))) (cp:=[some (cv cs),some (.ref 0),some (av A),some (.int d)]) (m:=m) (fun i:Nat=>PV.int (0+(i:Nat))) nd (NR (UL A) d) (cn d) cnn 1900000 (List.range r.toNat) (n+1) (by omega) (by omega) fun i _ n h0 h1=>by obtain⟨x,n',a,b,c,e⟩:=wa d ok K' cs A j n m (by omega) hc hA hj h0 h1;have cu:=dg (fn:=L (K'+1) .K5) [cv cs] [av A,.int d] (h:=[J2 n m]) (i:=0) (by rw[ah,iN];rfl) (by simp[ah,fW,PV.pure]) rfl (bx _ _) e (bH x) (bx _ _);simp only[List.cons_append,List.nil_append,List.set_cons_zero]at cu;exact⟨x,n',a,b,c,by simp only[EY,jw,d0,cu]⟩
 have R:=Rw.of y1;have hy:ys.length≤3:=by omega
 have hg:gn d * ys.length≤gn d * 3:=Nat.mul_le_mul_left _ hy;have R':Rw (UL A) d (gg d) 12 ys:=R.mono (ab2 _) (by omega) (by omega);obtain⟨l,o1,o2⟩:=vX (UL A) d (gg d) 12 K' (by omega) ((by decide:∀d≤4,gg d≤1000000) d hd) (by decide) false ys R';refine⟨l,n',o1,by omega,by omega,?_⟩;have co:∀h,bg (F (K'+1) .Ot) [.lst (ys.map nd)] h=.ok (.tup (l.map nd)) h:=fun h=>aN h (by simp[ah,PV.pure,fD]) o2;have r2:L (K'+2) .v5 [cv cs,.ref 0,av A,.int d] [J2 n m]=match jM (F (K'+1)) (L (K'+1)) [some (cv cs),some (.ref 0),some (av A),some (.int d)] [J2 n m]with|.nx _ h1=>fQ 1 .non h1|.rt v h1=>dq 1 v h1|_=>.bad:=rfl
 have cp:bX [0,1,2,3] [some (cv cs),some (.ref 0),some (av A),some (.int d)]=[some (cv cs),some (.ref 0),some (av A),some (.int d)]:=rfl;rw[r2];simp only[EY,jM,d0,ce,hr,bc,l3,cp,y4,co];exact uP (by rw[PV.pure];exact fD l) (bx _ _)
theorem uM:∀d,d≤4→jQ d:=by
 intro d
 induction d with
 |zero=>exact fun h=>pf 0 h fun e h=>by omega
 |succ d ih=>exact fun h=>pf (d+1) h fun e q=>by cases q;exact ih (by omega)
mutual
theorem Aj{a b:List (List Nat)}(h:∀x∈a,x∈b):∀n:Nd,Qo a n=true→Qo b n=true
 |.loop _ _ c _,e=>by rw[Qo]at e ⊢;exact dX h c e
 |.choice _ y z,e=>by rw[Qo,ab1]at e ⊢;exact⟨dX h y e.1,dX h z e.2⟩
 |.use x _,e=>by rw[Qo,List.contains_iff_mem]at e ⊢;exact h x e
 |.j6 x _ _ c,e=>by rw[Qo,ab1,List.contains_iff_mem]at e ⊢;exact⟨h x e.1,dX h c e.2⟩
 |.text _,_=>rfl
 |.place _ _,_=>rfl
 |.body _,_=>rfl
theorem dX{a b:List (List Nat)}(h:∀x∈a,x∈b):∀c:j8,Qi a c=true→Qi b c=true
 |.nil,_=>rfl
 |.cons n r,e=>by rw[Qi,ab1]at e ⊢;exact⟨Aj h n e.1,dX h r e.2⟩
end
theorem rh(g:Nd→Nat)(f:Nd→Bool):∀l:List Nd,((l.filter f).map g).sum≤(l.map g).sum
 |[]=>ab2 _
 |a::r=>by
  have:=rh g f r;rw[List.filter_cons,List.map_cons,List.sum_cons]
  split
  ·rw[List.map_cons,List.sum_cons];omega
  ·omega
theorem Rw.filter{kn:Cx}{d c t:Nat}{l:List Nd}(h:Rw kn d c t l)(f:Nd→Bool):Rw kn d c t (l.filter f):=
 ⟨fun n hn=>h.w n (List.mem_filter.mp hn).1,Nat.le_trans (rh _ f l) h.c,Nat.le_trans (rh _ f l) h.t⟩
theorem Bx(B:List Pc):(B.map Tj).map (·.n)=B.map (·.n):=by rw[List.map_map];rfl
theorem uJ{m:Option Int}{ns:List (List Nat)}(P:List Pe)(B:List Pc)(f:Nat):∀{l:List Nd},(∀n∈l,okN ([],m,ns) n=true∧dN n≤0)→(∀n∈l,okN (P,m,ns) n=true)∧∃r,cX B (f+1) (M9 l) .nil=some r
 |[],_=>⟨fun n hn=>(by cases hn),_,rfl⟩
 |n::r,h=>by
  obtain⟨a,r',b⟩:=uJ P B f fun z hz=>h z (List.mem_cons_of_mem _ hz)
  have one:okN (P,m,ns) n=true∧O_ B (cX B f) .nil n=some (1,1):=by
   obtain⟨o,d⟩:=h n List.mem_cons_self
   cases n with
   |text s=>exact⟨rfl,rfl⟩
   |place p s=>exact⟨o,rfl⟩
   |body ps=>exact⟨o,rfl⟩
   |loop x p b t=>rw[dN]at d;omega
   |choice p y z=>rw[dN]at d;omega
   |j6 x ps hs b=>rw[dN]at d;omega
   |use x ps=>rw[okN,ab1]at o;exact absurd o.2 (by simp[Vf,Vz])
  refine⟨fun z hz=>?_,?_⟩
  ·rcases List.mem_cons.mp hz with q|q
   ·subst q;exact one.1
   ·exact a z q
  ·have e2:cR (O_ B (cX B f) .nil) (M9 r)=some r':=b;show∃r',cR (O_ B (cX B f) .nil) (M9 (n::r))=some r';rw[M9,cR,one.2,e2];exact⟨_,rfl⟩
theorem Cb{P:List Pe}{m:Option Int}{ns:List (List Nat)}{n:Nd}(h:okN (P,m,ns) n=true)(k:decide (kT n∈ [tT,tP,tB])=true):okN ([],m,ns) n=true∧dN n≤0:=by
 cases n with
 |text s=>exact⟨rfl,ab2 _⟩
 |place p s=>exact⟨h,ab2 _⟩
 |body ps=>exact⟨h,ab2 _⟩
 |loop x p b t=>exact absurd k (by rw[kT];decide)
 |choice p y z=>exact absurd k (by rw[kT];decide)
 |j6 x ps hs b=>exact absurd k (by rw[kT];decide)
 |use x ps=>exact absurd k (by rw[kT];decide)
theorem HZ(K:Nat)(hK:42≤K)(B:List Pc)(nm:List Nat)(ns:List (List Nat))(mm:Option Int)(l:List Nd)(lB:B.length≤100)(hB:∀q∈B,Qi (B.map (·.n)) q.b=true∧J5 q.b≤1000000){d c t:Nat}(hl:Rw (B.map Tj,mm,ns) d c t l)(hd:d≤20)(hc:c≤1000000)(ht:t≤1000):
  ∃l',Rw (B.map Tj,mm,ns) d c t l'∧(∃r,cX (B++ [⟨nm,ns,mm,M9 l'⟩]) 41 (M9 l') .nil=some r)∧L (K+1) .Pu [.ref 0,pc ⟨nm,ns,mm,M9 l⟩] [.lst (B.map pc)]=.ok (pc ⟨nm,ns,mm,M9 l'⟩) [.lst (B.map pc)]:=by
 have mo:∀x∈B.map (·.n),x∈(B++ [(⟨nm,ns,mm,M9 l⟩:Pc)]).map (·.n):=fun x hx=>by rw[List.map_append];exact List.mem_append_left _ hx
 obtain⟨e1,Yw,e3⟩:=hl.d9;have e2:Qi (B.map (·.n)) (M9 l)=true:=by have:=ko _ _ Yw;rw[Bx]at this;exact this
 have ct:=iO l;have Wb:=hl.c
 obtain⟨left,g1,g2⟩:=Fe false (B++ [⟨nm,ns,mm,M9 l⟩]) (by simp;omega) (fun q hq=>by
  rcases List.mem_append.mp hq with h|h
  ·exact⟨dX mo _ (hB q h).1,(hB q h).2⟩
  ·cases List.mem_singleton.mp h;exact⟨dX mo _ e2,by show J5 (M9 l)≤_;omega⟩) 40 (by decide) (M9 l) .nil B.length 500 K (dX mo _ e2) (by omega) rfl (by decide) (by omega)
 have g3:L K .J4 ([RL false (B++ [(⟨nm,ns,mm,M9 l⟩:Pc)]),.tup (d9 (M9 l)),.int B.length,.non,.int 1]++.ref 0:: []) [O9 500]=.ok .non [O9 left]:=g2;have cl:=dg (fn:=L K .J4) [RL false (B++ [(⟨nm,ns,mm,M9 l⟩:Pc)]),.tup (d9 (M9 l)),.int B.length,.non,.int 1] [] (h:=[.lst (B.map pc),O9 500]) (i:=1) (by simp[ah,pG,PV.pure,aV]) rfl rfl (lC _) g3 rfl (lC _);simp only[List.cons_append,List.nil_append]at cl;have cl':bY (L K .J4) [.lst ((B++ [(⟨nm,ns,mm,M9 l⟩:Pc)]).map pc),.tup (d9 (M9 l)),.int B.length,.non,.int 1,.ref 1] [.lst (B.map pc),O9 500]=.ok .non [.lst (B.map pc),O9 left]:=cl;have d0:∀(a:List PV) r,aj (.lst a::r) (.ref 0)=.ref 0:=fun _ _=>rfl;have d1:∀(a:PO)(i:Int),aj [a,O9 i] (.ref 1)=.ref 1:=fun _ _=>rfl;have i1:∀(a:PO)(i:Int),b_ (.ref 1) (.int 0) [a,O9 i]=.ok (.int i) [a,O9 i]:=fun _ _=>rfl;have ad:=Df (h:=[.lst (B.map pc),O9 500]) (i:=0) rfl [pc ⟨nm,ns,mm,M9 l⟩] (by rw[List.length_map];simp;omega);have ad':aB (.ref 0) (.lst [pc ⟨nm,ns,mm,M9 l⟩]) [.lst (B.map pc),O9 500]=.ok (.lst ((B++ [(⟨nm,ns,mm,M9 l⟩:Pc)]).map pc)) [.lst (B.map pc),O9 500]:=by rw[ad,List.map_append];rfl
 have ln:cV [.ref 0] [.lst (B.map pc),O9 500]=.ok (.int B.length) [.lst (B.map pc),O9 500]:=by show Res.ok (PV.int (B.map pc).length) _=_;rw[List.length_map]
 have mk:gk [.int 500] [.lst (B.map pc)]=.ok (.ref 1) [.lst (B.map pc),O9 500]:=rfl;have r2:∀T,lR (F K) (L K) [some (.ref 0),some (pc ⟨nm,ns,mm,M9 l⟩),none] [.lst (B.map pc)]=T→L (K+1) .Pu [.ref 0,pc ⟨nm,ns,mm,M9 l⟩] [.lst (B.map pc)]=match T with|.nx _ h1=>fQ 1 .non h1|.rt v h1=>dq 1 v h1|_=>.bad:=fun T e=>by subst e;rfl
 have fin:∀(q:Pc)(a:PO),dq 1 (pc q) [.lst (B.map pc),a]=.ok (pc q) [.lst (B.map pc)]:=fun q a=>by unfold dq;rw[hR _ (fU q)];dsimp only;unfold fQ;simp[bC,PO.pure,hG]
 cases c0:decide (left≥0)with
 |true=>refine⟨l,hl,g1.2.2 (of_decide_eq_true c0),?_⟩;rw[r2 _ rfl];simp only[EY,lR,mk,d0,d1,ad',ln,cl',i1,c0];exact fin _ _
 |false=>
  have fw:∀(ρ:Ev) h,bv (lY (F K)) (mL (F K)) (bX [] ρ) (d9 (M9 l)) h=.ok ((l.filter fun n=>decide (kT n∈ [tT,tP,tB])).map nd) h:=fun ρ h=>by
   rw[gG];refine pk nd _ nd l (fun n hn=>?_) fun n hn=>?_
   ·have it:=Mc (x:=kT n) (ls:=[tT,tP,tB]) (jV (FI n)) (by decide) h;simp only[List.map_cons,List.map_nil]at it;simp only[EY,lY,it]
   ·simp only[EY,mL]
  have ll:(d9 (M9 l)).length<16777216:=by have:=gH (M9 l);omega
  have hf:=hl.filter fun n=>decide (kT n∈ [tT,tP,tB])
  have hf':Rw ([],mm,ns) 0 c t (l.filter fun n=>decide (kT n∈ [tT,tP,tB])):=⟨fun n hn=>by have:=Cb (hf.w n hn).2.1 (List.mem_filter.mp hn).2;exact⟨(hf.w n hn).1,this⟩,hf.c,hf.t⟩
  obtain⟨l',o1,o2⟩:=vX ([],mm,ns) 0 c t (K - 1) (by decide) hc ht false _ hf';obtain⟨p1,p2⟩:=uJ (B.map Tj) (B++ [⟨nm,ns,mm,M9 l'⟩]) 40 fun n hn=>(o1.w n hn).2;have o3:Rw (B.map Tj,mm,ns) d c t l':=⟨fun n hn=>⟨(o1.w n hn).1,p1 n hn,Nat.le_trans (o1.w n hn).2.2 (Nat.zero_le _)⟩,o1.c,o1.t⟩
  have co:∀h,bg (F K .Ot) [.lst ((l.filter fun n=>decide (kT n∈ [tT,tP,tB])).map nd)] h=.ok (.tup (l'.map nd)) h:=fun h=>aN h (by simp[ah,PV.pure,fD]) (by rw[show K=K - 1+1 by omega];exact o2)
  have sl:∀h,lg (pc ⟨nm,ns,mm,M9 l⟩) none (some 4) h=.ok (.tup [.str tI,.str nm,nms ns,J3 mm]) h:=fun h=>by unfold pc;exact GD _ 4 h
  have aa:∀h,aB (.tup [.str tI,.str nm,nms ns,J3 mm]) (.tup [.tup (l'.map nd)]) h=.ok (pc ⟨nm,ns,mm,M9 l'⟩) h:=fun h=>by rw[iT _ _ h (by simp;exact Nat.le_trans (by decide:5≤10) (by decide))];unfold pc;rw[gG];rfl
  refine⟨l',o3,p2,?_⟩;rw[r2 _ rfl];simp only[EY,lR,mk,d0,d1,ad',ln,cl',i1,c0,ll,fw,co,sl,aa];exact fin _ _
theorem fj{a b:Sx}{ρ:Ev}{h:List PO}{Q:SR→Prop}(ρ1:Ev)(h1:List PO)(e:a ρ h=.nx ρ1 h1)(k:Q (b ρ1 h1)):Q (aq a b ρ h):=by rw[cC,e];exact k
theorem xn{α:Type}{a b:Sx}{ρ:Ev}{h:List PO}{Q:SR→Prop}(f:α→Ev)(g:α→List PO)(R:α→Prop)(e:∃x,R x∧a ρ h=.nx (f x) (g x))(k:∀x,R x→Q (b (f x) (g x))):Q (aq a b ρ h):=by obtain⟨x,hx,e⟩:=e;exact fj _ _ e (k x hx)
theorem JB{l:List (List Nat)}(h:l.Nodup){i j:Nat}(hi:i<l.length)(hj:j<l.length)(e:i≠j):l.getD i []≠l.getD j []:=by
 rw[List.Nodup,List.pairwise_iff_getElem]at h;rw[List.getD_eq_getElem?_getD,List.getD_eq_getElem?_getD,List.getElem?_eq_getElem hi,List.getElem?_eq_getElem hj];rcases Nat.lt_or_ge i j with q|q
 ·exact h i j hi hj q
 ·exact fun z=>h j i hj hi (by omega) z.symm
theorem HL{ms:List (List Nat)}(hl:ms.length=12)(i:Int)(h:List PO):b_ (Pr ms) (.int (i % 12)) h=.ok (.str (ms.getD (i % 12).toNat [])) h:=by
 have hi:(i % 12).toNat<ms.length:=by omega
 unfold Pr;rw[xZ,dj (v:=PV.str (ms.getD (i % 12).toNat [])) (by omega) (by rw[List.getElem?_map,List.getD_eq_getElem?_getD,List.getElem?_eq_getElem hi];rfl)];rfl
theorem ID(k:Nat)(hk:k<8):sg (S6.getD k [])=true∧S6.getD k []∈S6.take (k+1)∧S6.getD k []∉S6.take k:=(by decide:∀k<8,sg (S6.getD k [])=true∧S6.getD k []∈S6.take (k+1)∧S6.getD k []∉S6.take k) k hk
theorem Cp:∀(E r:List Pc),Ur E r=true→∀q∈r,Qi ((E++r).map (·.n)) q.b=true
 |_,[],_,q,hq=>by cases hq
 |E,p::r,h,q,hq=>by
  rw[Ur,ab1,ab1,ab1]at h;rcases List.mem_cons.mp hq with z|z
  ·subst z;have:=ko _ _ h.2.2.1;rw[Bx]at this;exact dX (fun x hx=>by rw[List.map_append];exact List.mem_append_left _ hx) _ this
  ·have:=Cp (E++ [p]) r h.2.2.2 q z;rw[List.append_assoc]at this;exact this
noncomputable def Wl(ms:List (List Nat))(v:Int):List (List Nat):=(List.range (v % 5).toNat).map fun(i:Nat)=>ms.getD ((v / 5+(i:Int)) % 12).toNat []
theorem HF{ms:List (List Nat)}(hl:ms.length=12)(h:ms.Nodup)(v:Int):dup (Wl ms v)=false:=by rw[wD];unfold Wl List.Nodup;rw[List.pairwise_map];refine List.Pairwise.imp_of_mem (R:=fun a b=>a<b) ?_ List.pairwise_lt_range;intro i j hi hj W7;have:=List.mem_range.mp hi;have:=List.mem_range.mp hj;exact JB h (by omega) (by omega) (by omega)
structure BI(ms:List (List Nat))(many:Int)(k:Nat)(n:Int)(B:List Pc)(P:List Pe):Prop where
 lB:B.length=k
 nm:P=B.map Tj
 pe:∀p∈P,sg p.n=true∧p.m≤4∧hO p.h
 gb:∀q∈B,wC q=true∧dS q.b≤4∧J5 q.b≤10000
 ok:Ur [] B=true
 nd:(B.map (·.n)).Nodup
 wn:∀q∈B,q.n∈ms∨q.n∈S6.take k
 cx:∀E q,B=E++ [q]→∃r,cX B 41 q.b .nil=some r
 lm:∀E q,B=E++ [q]→many≤k→q.m=none
 n0:0≤n
 n1:n≤1+60000 * k
abbrev hB(n m:Int)(B:List Pc)(P:List Pe):List PO:=[J2 n m,.lst (B.map pc),.lst (P.map Ob)]
abbrev gE(cs:List Int)(ms:List (List Nat))(many:Int)(x6 x7 x8 x9 QD Ra QZ:Option PV):Ev:=[some (cv cs),some (.ref 0),some (Pr ms),some (.ref 1),some (.ref 2),some (.int many),x6,x7,x8,x9,QD,Ra,QZ]
def GQ(cs:List Int)(ms:List (List Nat))(many:Int)(k:Nat)(R:SR):Prop:=∃n m B P y7 y8 y9 Uk Vr Vq,BI ms many (k+1) n B P∧R=.nx (gE cs ms many (some (.int (0+(k:Nat)))) y7 y8 y9 Uk Vr Vq) (hB n m B P)
theorem zE(K:Nat)(hK:43≤K)(cs:List Int)(hc:cs.length≤63)(ms:List (List Nat))(ml:ms.length=12)(hm:Oq ms=true)(md:ms.Nodup)(mw:∀x∈ms,Vg x)(many:Int)(k:Nat)(hk:k<8)(n m:Int)(B:List Pc)(P:List Pe)(I:BI ms many k n B P)(x7 x8 x9 QD Ra QZ:Option PV):
  GQ cs ms many k (dy (F K) (L K) (gE cs ms many (some (.int (0+(k:Nat)))) x7 x8 x9 QD Ra QZ) (hB n m B P)):=by
 have lB:=I.lB;have lP:P.length=k:=by rw[I.nm,List.length_map];exact lB
 have nP:P.map (·.n)=B.map (·.n):=by rw[I.nm,Bx]
 have n0:=I.n0;have n1:=I.n1;have d0:∀n m B P,aj (hB n m B P) (.ref 0)=.ref 0:=fun _ _ _ _=>rfl;have d1:∀n m B P,aj (hB n m B P) (.ref 1)=.ref 1:=fun _ _ _ _=>rfl;have d2:∀n m B P,aj (hB n m B P) (.ref 2)=.ref 2:=fun _ _ _ _=>rfl;obtain⟨K',rfl⟩:∃K',K=K'+1:=⟨K - 1,by omega⟩
 obtain⟨v,v0,v1,ce⟩:=ge K' cs hc n m n0 (by omega) [.lst (B.map pc),.lst (P.map Ob)];unfold dy;refine fj _ _ (by simp only[EY,d0,ce];rfl) ?_;have t5:=bL v (by decide:(0:Int)<5);have bc:RM 4611686018427387904 (v % 5)=true:=bR.mpr ⟨by omega,by omega⟩;have l3:((List.range (v % 5).toNat).map fun i=>PV.int (0+(i:Nat))).length<16777216:=by rw[List.length_map,List.length_range];omega
 have g2:bv cJ (fP (F (K'+1))) [some (Pr ms),some (.int v)] ((List.range (v % 5).toNat).map fun i=>PV.int (0+(i:Nat))) (hB (n+1) m B P)=.ok ((Wl ms v).map PV.str) (hB (n+1) m B P):=by unfold Wl;rw[List.map_map];refine mH (fun i=>PV.int (0+(i:Nat))) _ (List.range (v % 5).toNat) fun i _=>?_;have e0:(0:Int)+(i:Nat)=(i:Nat):=Int.zero_add _;have l2:=HL ml (v / 5+(i:Nat));simp only[EY,fP,e0,l2];rfl
 have g0:(Wl ms v).length=(v % 5).toNat:=by unfold Wl;rw[List.length_map,List.length_range]
 have Xp:Oq (Wl ms v)=true:=List.all_eq_true.mpr fun x hx=>by obtain⟨i,_,rfl⟩:=List.mem_map.mp hx;exact List.all_eq_true.mp hm _ (gp (by omega))
 have hnd:=HF ml md v;generalize Wl ms v=ns at g2 g0 Xp hnd;have cp:∀a b c d e f g h i j k,bX [2,7] [a,b,some (Pr ms),c,d,e,f,some (.int v),g,h,i,j,k]=[some (Pr ms),some (.int v)]:=fun _ _ _ _ _ _ _ _ _ _ _=>rfl;refine fj (gE cs ms many (some (.int (0+(k:Nat)))) (some (.int v)) (some (nms ns)) x9 QD Ra QZ) (hB (n+1) m B P) (by simp only[EY,bc,l3,cp,g2];rfl) ?_;refine fj _ _ (by simp only[EY,if_true];rfl) ?_;refine xn (fun hd=>(gE cs ms many (some (.int (0+(k:Nat)))) (some (.int v)) (some (nms ns)) (some (J3 hd)) QD Ra QZ)) (fun _=>hB (n+1) m B P) (fun hd=>hO hd∧(many≤k+1→hd=none)) ?_ fun hd hh'=>?_
 ·have t4:=bL (v / 180) (by decide:(0:Int)<4)
  cases c1:decide (v / 60 % 3>0)with
  |false=>exact⟨none,⟨trivial,fun _=>rfl⟩,by simp only[EY,c1,J3]⟩
  |true=>
   cases c2:decide (0+((k:Nat):Int)<many - 1)with
   |false=>exact⟨none,⟨trivial,fun _=>rfl⟩,by simp only[EY,c1,c2,J3]⟩
   |true=>exact⟨some (v / 180 % 4),⟨⟨t4.1,by omega⟩,fun z=>by have:=of_decide_eq_true c2;omega⟩,by simp only[EY,c1,c2,J3]⟩
 obtain⟨hh,Yk⟩:=hh';have pl:xI [.ref 2] (hB (n+1) m B P)=.ok (.lst (P.map Ob)) (hB (n+1) m B P):=rfl;have dm:∀h,aj h (J3 hd)=J3 hd:=fun h=>jk h hd
 refine fj (gE cs ms many (some (.int (0+(k:Nat)))) (some (.int v)) (some (nms ns)) (some (J3 hd)) (some (av ⟨ns,P,hd,ms⟩)) Ra QZ) (hB (n+1) m B P) (by simp only[EY,uY,iQ,lF,d2,pl,dm];rfl) ?_
 obtain⟨m2,hm2⟩:∃m2:Int,∀ ρ,iq (.int m2) (.ref 0) (.int 1) ρ (hB (n+1) m B P)=.nx ρ (hB (n+1) m2 B P)∧m2=n+1+30 - 12 * (if decide (many>5)=true then 1 else 0):=⟨_,fun ρ=>⟨rfl,rfl⟩⟩
 have i0:∀n m B P,b_ (.ref 0) (.int 0) (hB n m B P)=.ok (.int n) (hB n m B P):=fun _ _ _ _=>rfl
 refine fj (gE cs ms many (some (.int (0+(k:Nat)))) (some (.int v)) (some (nms ns)) (some (J3 hd)) (some (av ⟨ns,P,hd,ms⟩)) Ra QZ) (hB (n+1) m2 B P) (by have:=(hm2 []).2;simp only[EY,d0,i0,← this,fun ρ=>(hm2 ρ).1]) ?_
 have hA:Vn 4 ⟨ns,P,hd,ms⟩:=⟨Xp,by show ns.length≤4;omega,by show P.length≤1000;omega,I.pe,hh,ml,hm,md,by show(P.map (·.n)).Nodup;rw[nP];exact I.nd⟩
 have c4:cg 4=29545:=rfl;have g4:gg 4=4665:=rfl;obtain⟨l1,n2,a1,a2,a3,a4⟩:=eL (uM 4 (ab2 _)) (K'+1) cs ⟨ns,P,hd,ms⟩ 4 (n+1) m2 (by omega) hc hA (by decide) (by omega) (by omega) [.lst (B.map pc),.lst (P.map Ob)];have a4':bY (L (K'+1) .v5) [cv cs,.ref 0,av ⟨ns,P,hd,ms⟩,.int 4] (hB (n+1) m2 B P)=.ok (.tup (l1.map nd)) (hB n2 m2 B P):=a4;refine fj _ _ (by simp only[EY,d0,a4'];rfl) ?_;have a1':Rw (P,hd,ns) 4 9330 24 l1:=a1.mono (ab2 _) (by omega) (by omega);refine xn (fun(x:List Nd×Int)=>(gE cs ms many (some (.int (0+(k:Nat)))) (some (.int v)) (some (nms ns)) (some (J3 hd)) (some (av ⟨ns,P,hd,ms⟩)) (some (.tup (x.1.map nd))) QZ)) (fun x=>hB x.2 m2 B P) (fun x=>Rw (P,hd,ns) 4 9330 24 x.1∧n≤x.2∧x.2≤n+59999) ?_ fun x hx=>?_
 ·obtain⟨l2,n3,b1,b2,b3,b4⟩:=eL (uM 4 (ab2 _)) (K'+1) cs ⟨ns,P,hd,ms⟩ 4 n2 m2 (by omega) hc hA (by decide) (by omega) (by omega) [.lst (B.map pc),.lst (P.map Ob)];have b4':bY (L (K'+1) .v5) [cv cs,.ref 0,av ⟨ns,P,hd,ms⟩,.int 4] (hB n2 m2 B P)=.ok (.tup (l2.map nd)) (hB n3 m2 B P):=b4;have en:=yi (yg fun z hz=>⟨(a1.w z hz).1,Nat.le_trans (a1.w z hz).2.2 (by decide)⟩) (hB n2 m2 B P);have la:=sU l1;have lb:=sU l2;have ac:=a1.c;have bc:=b1.c
  have ad:∀h,aB (.tup (l1.map nd)) (.tup (l2.map nd)) h=.ok (.tup ((l1++l2).map nd)) h:=fun h=>by rw[iT _ _ h (by rw[List.length_map,List.length_map];exact Nat.le_trans (by omega:_≤10000) (by decide)),List.map_append]
  have b1':Rw (P,hd,ns) 4 9330 24 (l1++l2):=(a1.app b1).mono (ab2 _) (by omega) (by omega)
  cases c1:(l1.map nd).isEmpty with
  |true=>exact⟨(l1++l2,n3),⟨b1',by dsimp only;omega,by dsimp only;omega⟩,by simp only[EY,en,c1,d0,b4',ad]⟩
  |false=>
   cases c2:decide (v / 720 % 3=1)with
   |true=>exact⟨(l1++l2,n3),⟨b1',by dsimp only;omega,by dsimp only;omega⟩,by simp only[EY,en,c1,c2,d0,b4',ad]⟩
   |false=>exact⟨(l1,n2),⟨a1',by dsimp only;omega,by dsimp only;omega⟩,by simp only[EY,en,c1,c2]⟩
 obtain⟨l,n3⟩:=x;obtain⟨hl,hn3,hn4⟩:=hx;dsimp only at hl hn3 hn4 ⊢;have XD:=bL (v / 2160+(0+((k:Nat):Int))) (by decide:(0:Int)<12);obtain⟨nm,nm1,nm2,nm3⟩:=wd ml hm _ XD.1 XD.2;refine fj _ _ (by simp only[EY,nm2];rfl) ?_
 have sP:∀x∈P.map (·.n),∀c∈x,c<1114112:=fun x hx=>by obtain⟨p,hp,rfl⟩:=List.mem_map.mp hx;exact jV (I.pe p hp).1
 have lq:(P.map Ob).length<sizeLine:=by rw[List.length_map];exact Nat.lt_of_le_of_lt (by omega:_≤10) (by decide)
 have cq:∀(te:Ex)(ρ:Ev),(∀p∈P,te [some (Ob p)] (hB n3 m2 B P)=.ok (.str p.n) (hB n3 m2 B P))→ρ[4]? =some (some (.ref 2))→kz [] 4 cJ te ρ (hB n3 m2 B P)=.ok ((P.map (·.n)).map PV.str) (hB n3 m2 B P):=fun te ρ ht hr=>by unfold kz af;rw[hr];show(if(P.map Ob).length<sizeLine then bv cJ te [] (P.map Ob) (hB n3 m2 B P)else .bad)=_;rw[if_pos lq,List.map_map];exact mH Ob _ P ht
 have e2:∀p:Pe,dF (F (K'+1)) [some (Ob p)] (hB n3 m2 B P)=.ok (.str p.n) (hB n3 m2 B P):=fun p=>rfl;have e3:∀p:Pe,dE (F (K'+1)) [some (Ob p)] (hB n3 m2 B P)=.ok (.str p.n) (hB n3 m2 B P):=fun p=>rfl;refine xn (fun x=>(gE cs ms many (some (.int (0+(k:Nat)))) (some (.int v)) (some (nms ns)) (some (J3 hd)) (some (av ⟨ns,P,hd,ms⟩)) (some (.tup (l.map nd))) (some (.str x)))) (fun _=>hB n3 m2 B P) (fun x=>sg x=true∧x∉P.map (·.n)∧(x∈ms∨x∈S6.take (k+1))) ?_ fun y hx=>?_
 ·have W2:=HW (jV nm1) sP (hB n3 m2 B P);have c2:=fun ρ=>cq (dF (F (K'+1))) ρ fun p _=>e2 p
  by_cases z:nm∈P.map (·.n)
  ·rw[decide_eq_true z]at W2
   have w3:O8 [PV.str [102,105,114,115,116],.str [115,101,99,111,110,100],.str [116,104,105,114,100],.str [102,111,117,114,116,104],.str [102,105,102,116,104],.str [115,105,120,116,104],.str [115,101,118,101,110,116,104],.str [101,105,103,104,116,104]] (0+((k:Nat):Int))=some (.str (S6.getD k [])):=by rcases(show k=0∨k=1∨k=2∨k=3∨k=4∨k=5∨k=6∨k=7 by omega)with q|q|q|q|q|q|q|q<;>rw[q]<;>rfl
   obtain⟨w1,w2,w4⟩:=ID k hk;refine⟨S6.getD k [],⟨w1,fun y=>?_,.inr w2⟩,by simp only[EY,c2,W2,w3]⟩;rw[nP]at y;obtain⟨q,hq,e⟩:=List.mem_map.mp y;rcases I.wn q hq with h|h
   ·rw[e]at h;exact mw _ h (List.mem_of_mem_take w2)
   ·rw[e]at h;exact w4 h
  ·rw[decide_eq_false z]at W2;exact⟨nm,⟨nm1,z,.inl nm3⟩,by simp only[EY,c2,W2]⟩
 obtain⟨hy,hyn,hyw⟩:=hx
 refine fj (gE cs ms many (some (.int (0+(k:Nat)))) (some (.int v)) (some (nms ns)) (some (J3 hd)) (some (av ⟨ns,P,hd,ms⟩)) (some (.tup (l.map nd))) (some (.str y))) (hB n3 m2 B P) (by have W2:=HW (jV hy) sP (hB n3 m2 B P);have c2:=fun ρ=>cq (dE (F (K'+1))) ρ fun p _=>e3 p;rw[decide_eq_false hyn]at W2;simp only[EY,c2,W2]) ?_
 rw[I.nm]at hl;obtain⟨lo,o1,o2⟩:=vX (B.map Tj,hd,ns) 4 9330 24 K' (by decide) (by decide) (by decide) true l hl;have co:∀h,bg (F (K'+1) .Ot) [.tup (l.map nd)] h=.ok (.tup (lo.map nd)) h:=fun h=>aN h (by simp[ah,PV.pure,fD]) o2;obtain⟨lf,f1,fx,f2⟩:=HZ K' (by omega) B y ns hd lo (by omega) (fun q hq=>⟨Cp [] B I.ok q hq,by have:=(I.gb q hq).2.2;omega⟩) o1 (by decide) (by decide) (by decide);have cf:=dg (fn:=L (K'+1) .Pu) [] [pc ⟨y,ns,hd,M9 lo⟩] (h:=hB n3 m2 B P) (i:=1) rfl (by rw[ah,fU];rfl) rfl (by simp[PO.pure,hG]) f2 (fU _) (by simp[PO.pure,hG])
 have cf':bY (L (K'+1) .Pu) [.ref 1,.tup [.str tI,.str y,nms ns,J3 hd,.tup (lo.map nd)]] (hB n3 m2 B P)=.ok (pc ⟨y,ns,hd,M9 lf⟩) (hB n3 m2 B P):=by rw[← gG lo];exact cf
 have i1:ei (hB n3 m2 B P) (.ref 1)=true:=rfl
 have ap:bK (.ref 1) [pc ⟨y,ns,hd,M9 lf⟩] (hB n3 m2 B P)=.ok .non (hB n3 m2 (B++ [⟨y,ns,hd,M9 lf⟩]) P):=by rw[CZ (h:=hB n3 m2 B P) (i:=1) (acc:=B.map pc) rfl _ (by rw[List.length_map];omega)];show Res.ok PV.non [J2 n3 m2,.lst (B.map pc++ [pc ⟨y,ns,hd,M9 lf⟩]),.lst (P.map Ob)]=_;rw[show B.map pc++ [pc ⟨y,ns,hd,M9 lf⟩]=(B++ [(⟨y,ns,hd,M9 lf⟩:Pc)]).map pc by rw[List.map_append];rfl]
 refine fj (gE cs ms many (some (.int (0+(k:Nat)))) (some (.int v)) (some (nms ns)) (some (J3 hd)) (some (av ⟨ns,P,hd,ms⟩)) (some (.tup (l.map nd))) (some (.str y))) (hB n3 m2 (B++ [⟨y,ns,hd,M9 lf⟩]) P) (by simp only[EY,d1,i1,dm,co,cf',ap]) ?_
 have i2:ei (hB n3 m2 (B++ [⟨y,ns,hd,M9 lf⟩]) P) (.ref 2)=true:=rfl
 have ap2:bK (.ref 2) [Ob ⟨y,ns.length,hd⟩] (hB n3 m2 (B++ [⟨y,ns,hd,M9 lf⟩]) P)=.ok .non (hB n3 m2 (B++ [⟨y,ns,hd,M9 lf⟩]) (P++ [⟨y,ns.length,hd⟩])):=by rw[CZ (h:=hB n3 m2 (B++ [(⟨y,ns,hd,M9 lf⟩:Pc)]) P) (i:=2) (acc:=P.map Ob) rfl _ (by rw[List.length_map];omega)];show Res.ok PV.non [J2 n3 m2,_,.lst (P.map Ob++ [Ob ⟨y,ns.length,hd⟩])]=_;rw[show P.map Ob++ [Ob ⟨y,ns.length,hd⟩]=(P++ [(⟨y,ns.length,hd⟩:Pe)]).map Ob by rw[List.map_append];rfl]
 have aa0:bK (.ref 2) [.tup [.str y,.int ns.length,J3 hd]] (hB n3 m2 (B++ [⟨y,ns,hd,M9 lf⟩]) P)=.ok .non (hB n3 m2 (B++ [⟨y,ns,hd,M9 lf⟩]) (P++ [⟨y,ns.length,hd⟩])):=ap2;obtain⟨f5,f6,f7⟩:=f1.d9;have fc:=f1.c;have fs:=iO lf;have yB:y∉B.map (·.n):=fun z=>hyn (by rw[nP];exact z);have sn:∀{E:List Pc}{q:Pc},B++ [(⟨y,ns,hd,M9 lf⟩:Pc)]=E++ [q]→q=⟨y,ns,hd,M9 lf⟩:=fun e=>(List.singleton_inj.mp (List.append_inj_right' e rfl)).symm
 refine⟨n3,m2,B++ [⟨y,ns,hd,M9 lf⟩],P++ [⟨y,ns.length,hd⟩],_,_,_,_,_,_,⟨by rw[List.length_append,lB];rfl,by rw[I.nm,List.map_append];rfl,fun p hp=>?_,fun q hq=>?_,uC ⟨y,ns,hd,M9 lf⟩ B [] I.ok yB hnd f6,?_,fun q hq=>?_,fun E q e=>?_,fun E q e h=>?_,by omega,by omega⟩,by simp only[EY,d2,i2,dm,aa0];rfl⟩
 ·rcases List.mem_append.mp hp with z|z
  ·exact I.pe p z
  ·cases List.mem_singleton.mp z;exact⟨hy,by show ns.length≤4;omega,hh⟩
 ·rcases List.mem_append.mp hq with z|z
  ·exact I.gb q z
  ·cases List.mem_singleton.mp z
   refine⟨?_,f7,by show J5 (M9 lf)≤_;omega⟩;simp only[wC,hy,Xp,f5,Bool.true_and,ab1,decide_eq_true_eq];omega
 ·rw[List.map_append];exact List.nodup_append.mpr ⟨I.nd,by simp,fun a ha b hb e=>by subst e;rw[List.map_cons,List.map_nil,List.mem_singleton]at hb;subst hb;exact yB ha⟩
 ·rcases List.mem_append.mp hq with z|z
  ·exact(I.wn q z).imp id fun h=>by rw[List.take_succ];exact List.mem_append_left _ h
  ·cases List.mem_singleton.mp z;exact hyw
 ·rw[sn e];exact fx
 ·rw[sn e];exact Yk (by omega)
theorem qL(K:Nat)(hK:43≤K)(cs:List Int)(hc:cs.length≤63)(ms:List (List Nat))(ml:ms.length=12)(hm:Oq ms=true)(md:ms.Nodup)(mw:∀x∈ms,Vg x)(many:Int):∀(r s:Nat),s+r≤8→∀(n m:Int)(B:List Pc)(P:List Pe)(x6 x7 x8 x9 QD Ra QZ:Option PV),BI ms many s n B P→
  ∃n' m' B' P' ρ',BI ms many (s+r) n' B' P'∧aJ (G5 6) (dy (F K) (L K)) ((List.range' s r).map fun i=>PV.int (0+(i:Nat))) (gE cs ms many x6 x7 x8 x9 QD Ra QZ) (hB n m B P)=.nx ρ' (hB n' m' B' P')∧ρ'[3]? =some (some (.ref 1))
 |0,s,_,n,m,B,P,x6,x7,x8,x9,QD,Ra,QZ,I=>⟨n,m,B,P,_,I,by rw[List.range',List.map_nil,aJ],rfl⟩
 |r+1,s,hs,n,m,B,P,x6,x7,x8,x9,QD,Ra,QZ,I=>by obtain⟨n1,m1,B1,P1,y7,y8,y9,Uk,Vr,Vq,I1,e⟩:=zE K hK cs hc ms ml hm md mw many s (by omega) n m B P I x7 x8 x9 QD Ra QZ;obtain⟨n2,m2,B2,P2,ρ2,I2,e2,e3⟩:=qL K hK cs hc ms ml hm md mw many r (s+1) (by omega) n1 m1 B1 P1 (some (.int (0+(s:Nat)))) y7 y8 y9 Uk Vr Vq I1;refine⟨n2,m2,B2,P2,ρ2,by rw[show s+(r+1)=s+1+r by omega];exact I2,?_,e3⟩;rw[List.range'_succ,List.map_cons];exact Eq.trans (dD rfl e) e2
theorem EJ(K:Nat)(hK:43≤K)(cs:List Int)(hc:cs.length≤63)(ms:List (List Nat))(ml:ms.length=12)(hm:Oq ms=true)(md:ms.Nodup)(mw:∀x∈ms,Vg x):
  ∃B n m,1≤B.length∧B.length≤8∧(∀q∈B,wC q=true∧dS q.b≤4∧J5 q.b≤10000)∧Ur [] B=true∧(∀E q,B=E++ [q]→q.m=none∧∃r,cX B 41 q.b .nil=some r)∧L (K+1) .o9 [cv cs,.ref 0,Pr ms] [J2 0 40]=.ok (bk B) [J2 n m]:=by
 obtain⟨K',rfl⟩:∃K',K=K'+1:=⟨K - 1,by omega⟩
 obtain⟨v,v0,v1,ce⟩:=ge K' cs hc 0 40 (by decide) (by decide) [.lst [],.lst []];have t8:=bL (v / 7) (by decide:(0:Int)<8)
 obtain⟨c,c1,c8,ec⟩:∃c:Nat,1≤c∧c≤8∧O8 [PV.int 1,.int 2,.int 3,.int 4,.int 5,.int 3,.int 4,.int 8] (v / 7 % 8)=some (.int (c:Nat)):=by
  rcases(show v / 7 % 8=0∨v / 7 % 8=1∨v / 7 % 8=2∨v / 7 % 8=3∨v / 7 % 8=4∨v / 7 % 8=5∨v / 7 % 8=6∨v / 7 % 8=7 by omega)with q|q|q|q|q|q|q|q<;>rw[q]
  ·exact⟨1,by decide,by decide,rfl⟩
  ·exact⟨2,by decide,by decide,rfl⟩
  ·exact⟨3,by decide,by decide,rfl⟩
  ·exact⟨4,by decide,by decide,rfl⟩
  ·exact⟨5,by decide,by decide,rfl⟩
  ·exact⟨3,by decide,by decide,rfl⟩
  ·exact⟨4,by decide,by decide,rfl⟩
  ·exact⟨8,by decide,by decide,rfl⟩
 obtain⟨n',m',B,P,ρ',I,e,e3⟩:=qL (K'+1) hK cs hc ms ml hm md mw c c 0 (by omega) 1 40 [] [] none none none none none none none ⟨rfl,rfl,fun p hp=>(by cases hp),fun q hq=>(by cases hq),rfl,List.nodup_nil,fun q hq=>(by cases hq),fun E q e=>(by simp at e),fun E q e=>(by simp at e),by decide,by decide⟩;rw[Nat.zero_add]at I;refine⟨B,n',m',by rw[I.lB];exact c1,by rw[I.lB];exact c8,I.gb,I.ok,fun E q e=>⟨I.lm E q e (Int.le_refl _),I.cx E q e⟩,?_⟩;have r2:L (K'+1+1) .o9 [cv cs,.ref 0,Pr ms] [J2 0 40]=match eY (F (K'+1)) (L (K'+1)) [some (cv cs),some (.ref 0),some (Pr ms),none,none,none,none,none,none,none,none,none,none] [J2 0 40]with|.nx _ h1=>fQ 1 .non h1|.rt v h1=>dq 1 v h1|_=>.bad:=rfl
 have d0:∀n m B P,aj (hB n m B P) (.ref 0)=.ref 0:=fun _ _ _ _=>rfl;have s3:aI 3 abf [some (cv cs),some (.ref 0),some (Pr ms),none,none,none,none,none,none,none,none,none,none] [J2 0 40]=.nx [some (cv cs),some (.ref 0),some (Pr ms),some (.ref 1),none,none,none,none,none,none,none,none,none] [J2 0 40,.lst []]:=rfl;have s4:aI 4 abf [some (cv cs),some (.ref 0),some (Pr ms),some (.ref 1),none,none,none,none,none,none,none,none,none] [J2 0 40,.lst []]=.nx [some (cv cs),some (.ref 0),some (Pr ms),some (.ref 1),some (.ref 2),none,none,none,none,none,none,none,none] (hB 0 40 [] []):=rfl;have bc:RM 4611686018427387904 ((c:Nat):Int)=true:=bR.mpr ⟨by omega,by omega⟩;have rg:(List.range ((c:Nat):Int).toNat)=List.range' 0 c:=by rw[Int.toNat_natCast,List.range_eq_range']
 have Yz:bY (L (K'+1) .J6) [cv cs,.ref 0] (hB 0 40 [] [])=.ok (.int v) (hB 1 40 [] []):=ce;rw[r2];unfold eY;rw[cC,s3];dsimp only;rw[cC,s4];dsimp only;simp only[EY,Ia,d0,Yz,ec,bc,rg,e,e3];show dq 1 (bk B) (hB n' m' B P)=_;unfold dq;rw[hR _ (dG B)];rfl
structure VR(B:List Pc)(f:Nat)(hd:Hd)(s:Sz)(c d:Nat):Prop where
 n0:0≤s.2.2.1
 n1:0≤s.2.2.2
 a:s.2.2.1=0∨hd=.nil→(c:Int)=s.1∧(d:Int)=s.2.1
 b:s.2.2.1≠0→∀b' i h',hd=.cons b' i h'→∃m e:Nat,cX B f b' h'=some (m,e)∧(c:Int)=s.1+s.2.2.1 * m∧(d:Int)=max s.2.1 (s.2.2.2+e)
 z:s.2.2.1=0→s.2.2.2=0
theorem VR.mono{B:List Pc}{f:Nat}{hd:Hd}{s:Sz}{c d:Nat}(h:VR B f hd s c d):VR B (f+1) hd s c d:=
 ⟨h.n0,h.n1,h.a,fun n b' i h' e=>by obtain⟨m,e,g,r⟩:=h.b n b' i h' e;exact⟨m,e,iP B f b' h' _ g,r⟩,h.z⟩
theorem Zh(a b:Int):(if b>a then b else a)=max a b:=by
 rw[Int.max_def]
 split
 ·rename_i z;rw[if_pos (Int.le_of_lt z)]
 ·rename_i z
  split
  ·exact Int.le_antisymm ‹_› (Int.not_lt.mp z)
  ·rfl
theorem Xn(a b:Nat):((max a b:Nat):Int)=max (a:Int) b:=by omega
theorem mx3(a b c:Int):max (max a b) c=max (max a c) b:=by rw[Int.max_assoc,Int.max_comm b c,Int.max_assoc]
theorem Za(b d e:Int):max b d+e=max (b+e) (d+e):=by
 rcases Int.le_total b d with h|h
 ·rw[Int.max_eq_right h,Int.max_eq_right (Int.add_le_add_right h e)]
 ·rw[Int.max_eq_left h,Int.max_eq_left (Int.add_le_add_right h e)]
theorem mx4(a b c d e:Int):max (max a (b+e)) (max c (d+e))=max (max a c) (max b d+e):=by rw[Za,← Int.max_assoc,mx3 a,Int.max_assoc (max a c)]
theorem mx5(a b c x:Int):max a (b+max c x)=max (max a (b+c)) (b+x):=by rw[Int.add_comm b (max c x),Za,Int.max_assoc,Int.add_comm c,Int.add_comm x]
theorem VR.side{B:List Pc}{f:Nat}{hd:Hd}{s t:Sz}{c d c' d':Nat}(h:VR B f hd s c d)(g:VR B f hd t c' d'):VR B f hd (U3 s t) (c+c') (max d d'):=by
 obtain⟨s1,s2,s3,s4⟩:=s;obtain⟨t1,t2,t3,t4⟩:=t;obtain⟨h0,h1,ha,hb,hz⟩:=h;obtain⟨g0,g1,ga,gb,gz⟩:=g;dsimp only at h0 h1 ha hb hz g0 g1 ga gb gz;have zz:s3+t3=0→s3=0∧t3=0:=fun e=>by clear ha hb hz ga gb gz;omega
 unfold U3;simp only[Zh];refine⟨Int.add_nonneg h0 g0,Int.le_trans h1 (Int.le_max_left ..),fun q=>?_,fun q b' i h' e=>?_,fun q=>?_⟩
 ·have a1:=ha (q.imp (fun z=>(zz z).1) id);have a2:=ga (q.imp (fun z=>(zz z).2) id);exact⟨by rw[Int.natCast_add,a1.1,a2.1],by rw[Xn,a1.2,a2.2]⟩
 ·dsimp only at q ⊢
  by_cases hs:s3=0
  ·obtain⟨a1,a2⟩:=ha (.inl hs);have h4:=hz hs;subst hs h4;obtain⟨m,e2,r1,r2,r3⟩:=gb (fun z=>q (by rw[z];rfl)) b' i h' e;refine⟨m,e2,r1,?_,?_⟩
   ·rw[Int.natCast_add,a1,r2,Int.zero_add,Int.add_assoc]
   ·rw[Xn,a2,r3,Int.max_eq_right g1,Int.max_assoc]
  ·obtain⟨m,e2,r1,r2,r3⟩:=hb hs b' i h' e
   by_cases ht:t3=0
   ·obtain⟨a1,a2⟩:=ga (.inl ht);have h4:=gz ht;subst ht h4;refine⟨m,e2,r1,?_,?_⟩
    ·rw[Int.natCast_add,a1,r2,Int.add_zero,Int.add_right_comm]
    ·rw[Xn,a2,r3,Int.max_eq_left h1,mx3]
   ·obtain⟨m',e3,q1,q2,q3⟩:=gb ht b' i h' e;rw[r1]at q1
    cases q1
    refine⟨m,e2,r1,?_,?_⟩
    ·rw[Int.natCast_add,r2,q2,Int.add_mul];omega
    ·rw[Xn,r3,q3,mx4]
 ·obtain⟨a,b⟩:=zz q;rw[hz a,gz b];rfl
theorem VR.wi{B:List Pc}{f:Nat}{hd:Hd}{s:Sz}{c d:Nat}(h:VR B f hd s c d):VR B f hd (Sy s) (c+1) (d+1):=by
 have h0:=h.n0;have h1:=h.n1;refine⟨h0,by simp only[Sy];split<;>omega,fun q=>?_,fun q b' i h' e=>?_,fun q=>?_⟩
 ·have a1:=h.a q;simp only[Sy];omega
 ·obtain⟨m,e2,r1,r2,r3⟩:=h.b q b' i h' e;have:(s.2.2.1 !=0)=true:=by simpa[Sy]using q
  refine⟨m,e2,r1,?_,?_⟩
  ·simp only[Sy];omega
  ·simp only[Sy,this,if_true];omega
 ·have q':s.2.2.1=0:=q;simp[Sy,q']
theorem VR.zero(B:List Pc)(f:Nat)(hd:Hd):VR B f hd (0,0,0,0) 0 0:=⟨by decide,by decide,fun _=>⟨rfl,rfl⟩,fun q=>absurd rfl q,fun _=>rfl⟩
theorem VR.leaf(B:List Pc)(f:Nat)(hd:Hd):VR B f hd (1,1,0,0) 1 1:=⟨by decide,by decide,fun _=>⟨rfl,rfl⟩,fun q=>absurd rfl q,fun _=>rfl⟩
theorem VR.use{B:List Pc}{f:Nat}{hd:Hd}{p s:Sz}{b:j8}{c d:Nat}(h:VR B f (.cons b 0 hd) p c d)(g:∀m e,cX B f b hd=some (m,e)→VR B f hd s m e)(s0:0≤s.2.2.1∧0≤s.2.2.2):VR B f hd (VP p s) c d:=by
 have h0:=h.n0;have h1:=h.n1;unfold VP
 by_cases p0:p.2.2.1=0
 ·rw[if_pos p0];have a1:=h.a (.inl p0);exact⟨Int.le_refl _,Int.le_refl _,fun _=>a1,fun q=>absurd rfl q,fun _=>rfl⟩
 ·rw[if_neg p0];obtain⟨m,e,r1,r2,r3⟩:=h.b p0 b 0 hd rfl;have G:=g m e r1;have pp:0<p.2.2.1:=by omega
  have mz:p.2.2.1 * s.2.2.1=0↔s.2.2.1=0:=by
   constructor
   ·intro z;rcases Int.mul_eq_zero.mp z with y|y
    ·exact(p0 y).elim
    ·exact y
   ·intro z;rw[z,Int.mul_zero]
  refine⟨Int.mul_nonneg h0 s0.1,by dsimp only;split<;>omega,fun q=>?_,fun q b' i h' e'=>?_,fun q=>?_⟩
  ·have a2:=G.a (q.imp mz.mp id);refine⟨?_,?_⟩
   ·rw[r2,a2.1]
   ·dsimp only;rw[r3,Zh,a2.2]
  ·have sn:s.2.2.1≠0:=fun z=>q (mz.mpr z);obtain⟨m',e2,q1,q2,q3⟩:=G.b sn b' i h' e';have t:(s.2.2.1 !=0)=true:=by simpa using sn
   refine⟨m',e2,q1,?_,?_⟩
   ·dsimp only;rw[r2,q2,Int.mul_add,Int.mul_assoc];omega
   ·dsimp only;rw[r3,q3,t,Zh,if_pos rfl,mx5,Int.add_assoc]
  ·have:s.2.2.1=0:=mz.mp q;simp[this]
def nn(s:Sz):Prop:=0≤s.2.2.1∧0≤s.2.2.2
theorem Jz{s t:Sz}(h:nn s)(g:nn t):nn (U3 s t):=by unfold nn U3 at*;dsimp only;refine⟨by omega,?_⟩;split<;>omega
theorem xN{s:Sz}(h:nn s):nn (Sy s):=by unfold nn Sy at*;dsimp only;refine⟨h.1,?_⟩;split<;>omega
theorem Jy{p s:Sz}(h:nn p)(g:nn s):nn (VP p s):=by
 unfold VP
 split
 ·exact⟨Int.le_refl _,Int.le_refl _⟩
 ·refine⟨Int.mul_nonneg h.1 g.1,?_⟩;unfold nn at h g;dsimp only;split<;>omega
mutual
theorem Lm{S:List Nat→Sz}(hS:∀x,nn (S x)):∀n:Nd,nn (Pb S n)
 |.loop _ _ b _=>by rw[Pb];exact xN (wb hS b ⟨Int.le_refl _,Int.le_refl _⟩)
 |.choice _ y z=>by rw[Pb];exact xN (wb hS z (wb hS y ⟨Int.le_refl _,Int.le_refl _⟩))
 |.use x _=>by rw[Pb];exact xN ⟨Int.le_refl _,Int.le_refl _⟩
 |.j6 x _ _ b=>by rw[Pb];exact xN (Jy (hS x) (wb hS b ⟨Int.le_refl _,Int.le_refl _⟩))
 |.body _=>⟨Int.le_of_lt Int.one_pos,Int.le_of_lt Int.one_pos⟩
 |.text _=>⟨Int.le_refl _,Int.le_refl _⟩
 |.place _ _=>⟨Int.le_refl _,Int.le_refl _⟩
theorem wb{S:List Nat→Sz}(hS:∀x,nn (S x)):∀(b:j8){a:Sz},nn a→nn (O3 S a b)
 |.nil,a,h=>by rw[O3];exact h
 |.cons n r,a,h=>by rw[O3];exact wb hS r (Jz h (Lm hS n))
end
theorem FW(B:List Pc)(S:List Nat→Sz)(hN:∀x,nn (S x))(hS:∀x q,look B x=some q→S x=O3 S (0,0,0,0) q.b):∀(f:Nat)(b:j8)(hd:Hd)(c d:Nat),cX B f b hd=some (c,d)→VR B f hd (O3 S (0,0,0,0) b) c d
 |0,_,_,_,_,h=>by cases h
 |f+1,b,hd,c,d,h=>by
  have ih:=FW B S hN hS f
  have node:∀(n:Nd)(c d:Nat),O_ B (cX B f) hd n=some (c,d)→VR B f hd (Pb S n) c d:=fun n c d hn=>by
   have up:∀{o:Option (Nat×Nat)},U0 o=some (c,d)→∃c' d',o=some (c',d')∧c=c'+1∧d=d'+1:=fun{o} z=>by
    cases o with
    |none=>cases z
    |some a=>cases z;exact⟨_,_,rfl,rfl,rfl⟩
   cases n with
   |loop x p b t=>obtain⟨c',d',e,rfl,rfl⟩:=up hn;rw[Pb];exact(ih b hd c' d' e).wi
   |choice p y z=>obtain⟨c',d',e,rfl,rfl⟩:=up hn;rw[Pb,← vD];exact(ih (O4 y z) hd c' d' e).wi
   |use x ps=>
    rw[O_]at hn
    cases l:look B x with
    |none=>rw[l]at hn;cases hn
    |some q=>rw[l]at hn;obtain⟨c',d',e,rfl,rfl⟩:=up hn;have:=(ih q.b .nil c' d' e).a (.inr rfl);rw[Pb];refine VR.wi ⟨Int.le_refl _,Int.le_refl _,fun _=>?_,fun q=>absurd rfl q,fun _=>rfl⟩;rw[hS x q l];exact this
   |j6 x ps hs b=>
    rw[O_]at hn
    cases l:look B x with
    |none=>rw[l]at hn;cases hn
    |some q=>rw[l]at hn;obtain⟨c',d',e,rfl,rfl⟩:=up hn;rw[Pb];refine VR.wi (VR.use (b:=b) (by rw[hS x q l];exact ih q.b (.cons b 0 hd) c' d' e) (fun m e he=>ih b hd m e he) (wb hN b ⟨Int.le_refl _,Int.le_refl _⟩))
   |body ps=>
    cases hd with
    |nil=>
     cases hn
     exact⟨Int.le_of_lt Int.one_pos,Int.le_of_lt Int.one_pos,fun _=>⟨rfl,rfl⟩,fun _ b' i h' z=>(by cases z),fun z=>(Int.one_ne_zero z).elim⟩
    |cons b' i h'=>
     obtain⟨c',d',e,rfl,rfl⟩:=up hn;refine⟨Int.le_of_lt Int.one_pos,Int.le_of_lt Int.one_pos,fun z=>?_,fun _ b2 i2 h2 z=>?_,fun z=>(Int.one_ne_zero z).elim⟩
     ·rcases z with z|z
      ·exact(Int.one_ne_zero z).elim
      ·cases z
     ·cases z
      refine⟨c',d',e,?_,?_⟩
      ·show((c'+1:Nat):Int)=1+1 * (c':Int);omega
      ·show((d'+1:Nat):Int)=max 1 (1+(d':Int));omega
   |text s=>cases hn;exact VR.leaf B f hd
   |place p s=>cases hn;exact VR.leaf B f hd
  have row:∀(b:j8)(a:Sz)(c0 d0 c d:Nat),VR B f hd a c0 d0→cR (O_ B (cX B f) hd) b=some (c,d)→VR B f hd (O3 S a b) (c0+c) (max d0 d):=fun b=>by
   induction b using j8.rec (motive_1:=fun _=>True)with
   |nil=>intro a c0 d0 c d h z;cases z;rw[O3];simpa using h
   |cons n r _ ihr=>
    intro a c0 d0 c d h z;rw[cR]at z
    cases e1:O_ B (cX B f) hd n with
    |none=>rw[e1]at z;cases z
    |some x=>
     cases e2:cR (O_ B (cX B f) hd) r with
     |none=>rw[e1,e2]at z;cases z
     |some y=>
      rw[e1,e2]at z
      cases z
      have:=ihr (U3 a (Pb S n)) (c0+x.1) (max d0 x.2) y.1 y.2 (h.side (node n x.1 x.2 e1)) e2;rw[O3,← Nat.add_assoc,← Nat.max_assoc];exact this
   |_=>trivial
  have:=row b (0,0,0,0) 0 0 c d (VR.zero B f hd) h;rw[Nat.zero_add,Nat.max_eq_right (Nat.zero_le _)]at this;exact this.mono
mutual
theorem Gz{S T:List Nat→Sz}{kn:List (List Nat)}(h:∀x∈kn,S x=T x):∀n:Nd,Qo kn n=true→Pb S n=Pb T n
 |.loop _ _ b _,u=>by rw[Qo]at u;rw[Pb,Pb,mh h b u]
 |.choice _ y z,u=>by rw[Qo,ab1]at u;rw[Pb,Pb,mh h y u.1,mh h z u.2]
 |.use x _,u=>by rw[Qo,List.contains_iff_mem]at u;rw[Pb,Pb,h x u]
 |.j6 x _ _ b,u=>by rw[Qo,ab1,List.contains_iff_mem]at u;rw[Pb,Pb,mh h b u.2,h x u.1]
 |.body _,_=>rfl
 |.text _,_=>rfl
 |.place _ _,_=>rfl
theorem mh{S T:List Nat→Sz}{kn:List (List Nat)}(h:∀x∈kn,S x=T x):∀(b:j8){a:Sz},Qi kn b=true→O3 S a b=O3 T a b
 |.nil,a,_=>by rw[O3,O3]
 |.cons n r,a,u=>by rw[Qi,ab1]at u;rw[O3,O3,Gz h n u.1];exact mh h r u.2
end
theorem xW{S T:List (List Nat×Sz)}{x:List Nat}(h:x∈S.map (·.1)):Oj (S++T) x=Oj S x:=by
 unfold Oj;rw[List.find?_append]
 cases e:S.find? fun y=>y.1==x with
 |some y=>rfl
 |none=>obtain⟨y,hy,rfl⟩:=List.mem_map.mp h;exact absurd (List.find?_eq_none.mp e y hy) (by simp)
theorem CV:∀(r:List Pc)(S:List (List Nat×Sz)),∃T,bS S r=S++T
 |[],S=>⟨[],by rw[bS,List.append_nil]⟩
 |q::r,S=>by obtain⟨T,e⟩:=CV r (S++ [(q.n,O3 (Oj S) (0,0,0,0) q.b)]);exact⟨_,by rw[bS,e,List.append_assoc]⟩
theorem Gc(len:Nat):∀(r E:List Pc)(S:List (List Nat×Sz)),S.map (·.1)=E.map (·.n)→Tf len E r=none→∀q∈r,Oj (bS S r) q.n=O3 (Oj (bS S r)) (0,0,0,0) q.b
 |[],_,_,_,_,q,hq=>by cases hq
 |p::r,E,S,hn,hf,q,hq=>by
  rw[Tf]at hf
  split at hf
  ·cases hf
  ·rename_i nc;rw[Option.or_eq_none_iff]at hf;have us:=ky E p.m _ _ _ p.b hf.1;rw[bS];rcases List.mem_cons.mp hq with z|z
   ·subst z;obtain⟨T,e⟩:=CV r (S++ [(q.n,O3 (Oj S) (0,0,0,0) q.b)])
    have nin:q.n∉S.map (·.1):=fun hm=>by rw[hn,← List.contains_iff_mem]at hm;rw[hm]at nc;exact absurd rfl nc
    have k:∀x∈E.map (·.n),Oj S x=Oj (S++ [(q.n,O3 (Oj S) (0,0,0,0) q.b)]++T) x:=fun x hx=>by rw[← hn]at hx;rw[List.append_assoc,xW hx]
    rw[e,← mh k q.b us,xW (by simp)];unfold Oj
    rw[List.find?_append,List.find?_eq_none.mpr fun y hy=>by intro w;exact nin (List.mem_map.mpr ⟨y,hy,eq_of_beq w⟩)]
    simp
   ·exact Gc len r (E++ [p]) _ (by rw[List.map_append,List.map_append,hn];rfl) hf.2 q z
mutual
def Vh:Nd→Bool
 |.loop _ _ b _=>RD b
 |.choice _ y z=>RD y&&RD z
 |.j6 _ _ _ b=>RD b
 |.body _=>false
 |_=>true
def RD:j8→Bool
 |.nil=>true
 |.cons n r=>Vh n&&RD r
end
noncomputable def hb(b:j8):Hd→Bool
 |.nil=>RD b
 |.cons c _ h=>hb c h
mutual
theorem JD(E:List Pc)(w:List Int)(ns:List (List Nat)):∀n:Nd,Qn E none ns n=false→Sg E none w ns n=none→Vh n=true
 |.loop x _ b _,_,h=>by rw[Sg]at h;rw[Vh];exact mF E _ _ _ b h
 |.choice _ y z,_,h=>by rw[Sg,Option.or_eq_none_iff]at h;rw[Vh,mF E _ _ _ y h.1,mF E _ _ _ z h.2];rfl
 |.j6 _ _ _ b,_,h=>by rw[Sg]at h;rw[Vh];exact mF E _ _ _ b h
 |.body ps,e,_=>by rw[Qn,Bool.or_eq_false_iff]at e;exact absurd e.2 (by simp)
 |.use _ _,_,_=>rfl
 |.text _,_,_=>rfl
 |.place _ _,_,_=>rfl
theorem mF(E:List Pc)(w:List Int)(k:Nat)(ns:List (List Nat)):∀b:j8,QJ E none w k ns b=none→RD b=true
 |.nil,_=>rfl
 |.cons n r,h=>by
  rw[QJ]at h
  cases e:Qn E none ns n with
  |true=>rw[e,if_pos rfl]at h;cases h
  |false=>rw[e,if_neg (by decide),Option.or_eq_none_iff]at h;rw[RD,JD E _ _ n e h.1,mF E _ _ _ r h.2];rfl
end
mutual
def U_(B:List Pc):Nd→Bool
 |.loop _ _ b _=>TX B b
 |.choice _ y z=>TX B y&&TX B z
 |.use x _=>match look B x with
  |none=>false
  |some q=>RD q.b
 |.j6 _ _ _ b=>TX B b
 |_=>true
def TX(B:List Pc):j8→Bool
 |.nil=>true
 |.cons n r=>U_ B n&&TX B r
end
def hun(B:List Pc):Hd→Bool
 |.nil=>true
 |.cons b _ h=>TX B b&&hun B h
theorem yt{B:List Pc}{g:j8→Hd→Option (Nat×Nat)}{hd:Hd}{n:Nd}{c d:Nat}(h:O_ B g hd n=some (c,d)):1≤c:=by
 have up:∀{o:Option (Nat×Nat)},U0 o=some (c,d)→1≤c:=fun{o} z=>by
  cases o with
  |none=>cases z
  |some a=>cases z;exact Nat.le_add_left _ _
 cases n with
 |loop x p b t=>exact up h
 |choice p y z=>exact up h
 |use x ps=>rw[O_]at h;cases l:look B x<;>rw[l]at h<;>first|cases h|exact up h
 |j6 x ps hs b=>rw[O_]at h;cases l:look B x<;>rw[l]at h<;>first|cases h|exact up h
 |body ps=>cases hd with
  |nil=>cases h;exact ab2 _
  |cons b i h'=>exact up h
 |text s=>cases h;exact ab2 _
 |place p s=>cases h;exact ab2 _
theorem lQ{B:List Pc}{f:Nat}{b:j8}{hd:Hd}{d:Nat}(h:cX B f b hd=some (0,d)):d=0:=by
 cases f with
 |zero=>cases h
 |succ f=>
  cases b with
  |nil=>cases h;rfl
  |cons n r=>
   have h':cR (O_ B (cX B f) hd) (.cons n r)=some (0,d):=h;rw[cR]at h'
   cases e1:O_ B (cX B f) hd n with
   |none=>rw[e1]at h';cases h'
   |some x=>
    cases e2:cR (O_ B (cX B f) hd) r with
    |none=>rw[e1,e2]at h';cases h'
    |some y=>rw[e1,e2]at h';have:=yt (c:=x.1) (d:=x.2) e1;have h2:=congrArg (fun o=>o.map (·.1)) h';simp only[Option.map_some,Option.some.injEq]at h2;omega
theorem FY(g:Nd→Option (Nat×Nat)):∀(y z:j8)(c d:Nat),cR g (O4 y z)=some (c,d)→∃c1 d1 c2 d2,cR g y=some (c1,d1)∧cR g z=some (c2,d2)∧c=c1+c2∧d=max d1 d2
 |.nil,z,c,d,h=>⟨0,0,c,d,rfl,h,by omega,by omega⟩
 |.cons n r,z,c,d,h=>by
  rw[O4,cR]at h
  cases e1:g n with
  |none=>rw[e1]at h;cases h
  |some x=>
   cases e2:cR g (O4 r z)with
   |none=>rw[e1,e2]at h;cases h
   |some y=>
    rw[e1,e2]at h
    cases h
    obtain⟨c1,d1,c2,d2,a,b,e,f⟩:=FY g r z y.1 y.2 e2;exact⟨x.1+c1,max x.2 d1,c2,d2,by rw[cR,e1,a],b,by rw[e,Nat.add_assoc],by rw[f,Nat.max_assoc]⟩
noncomputable def lw(c d:Nat)(dp:Int):Int:=if c=0 then 0 else dp - 1+d
def tJ(t:Bool)(B:List Pc)(f:Nat):Prop:=∀(b:j8)(hd:Hd)(i dp:Int)(k c d:Nat),cX B f b (zH hd)=some (c,d)→hb b hd=true→TX B b=true→hun B hd=true→1≤dp→f≤k→
 F k .H_ [RL t B,.int i,.tup (d9 b),hv hd,.int dp]=.ok (.tup [.int c,.int (lw c d dp)])
theorem uV(B:List Pc)(k:Nat)(ρ:Ev)(h:List PO):bv cJ (gJ (F k)) (bX [] ρ) (B.map pc) h=.ok ((B.map (·.n)).map PV.str) h:=by
 rw[List.map_map]
 exact mH pc _ B fun p hp=>by show gJ (F k) [some (pc p)] h=_;simp only[EX,gJ];rfl
theorem wv{b c:j8}{hd:Hd}(h:hb b hd=true)(s:RD b=true→RD c=true):hb c hd=true:=by
 cases hd with
 |nil=>exact s h
 |cons b' i h'=>exact h
abbrev QW(a b:Int):Int:=if b>a then b else a
abbrev Ul(i:Int)(b:j8)(h:Hd):PV:=.tup [.int i,.tup (d9 b),hv h]
abbrev kE(t:Bool)(B:List Pc)(i:Int)(a:PV)(hd:Hd)(dp M Lo:Int)(x7 x8 x9 QD Ra QZ:Option PV):Ev:=[some (RL t B),some (.int i),some a,some (hv hd),some (.int dp),some (.int M),some (.int Lo),x7,x8,x9,QD,Ra,QZ]
theorem ie(t:Bool)(B:List Pc)(k:Nat)(a nv v8:PV)(hd:Hd)(i dp M Lo c l i':Int)(b:j8)(h':Hd)(x9 QD Ra QZ:Option PV)(r:List PV)(h:List PO)(e:F k .H_ [RL t B,.int i',.tup (d9 b),hv h',.int (dp+1)]=.ok (.tup [.int c,.int l])):
  aJ (G5 10) (fh (F k)) (Ul i' b h'::r) (kE t B i a hd dp M Lo (some nv) (some v8) x9 QD Ra QZ) h=
  aJ (G5 10) (fh (F k)) r (kE t B i a hd dp (M+c) (QW Lo l) (some nv) (some v8) x9 (some (Ul i' b h')) (some (.int c)) (some (.int l))) h:=by
 have cc:∀h,bg (F k .H_) [RL t B,.int i',.tup (d9 b),hv h',.int (dp+1)] h=.ok (.tup [.int c,.int l]) h:=fun h=>aN h (by simp[ah,pG,PV.pure,aV,nO]) e;refine dD rfl ?_;simp only[EX,fh,eO,gm,cc]
theorem su(a b:Int):QW a b=max a b:=Zh a b
theorem sv(a b c:Int):QW (QW a b) c=QW a (QW b c):=by simp only[su,Int.max_assoc]
theorem dpe(dp:Int)(d:Nat):dp - 1+((d+1:Nat):Int)=dp+d:=by omega
theorem BR{c d e:Nat}{dp:Int}(h:c=0→d=0)(p:1≤dp):QW (dp+e) (lw c d (dp+1))=dp+((max e d:Nat):Int):=by
 rw[su,Xn,lw]
 split
 ·rw[h ‹_›,Int.max_eq_left (by omega),Int.max_eq_left (by omega)]
 ·rw[show dp+1 - 1+(d:Int)=dp+d by omega,Int.add_comm dp,Int.add_comm dp,Int.add_comm dp,Za]
def CO(t:Bool)(B:List Pc)(k:Nat)(a:PV)(hd:Hd)(i dp:Int)(n:Nd)(M Lo:Int)(h:List PO)(R:SR):Prop:=∃y8 y9 Uk Vr Vq,R=.nx (kE t B i a hd dp M Lo (some (nd n)) y8 y9 Uk Vr Vq) h
theorem zJ(t:Bool)(B:List Pc)(lB:B.length≤1000)(hB:∀q∈B,TX B q.b=true)(k f:Nat)(ok:tJ t B f)(hk:f≤k)(a:PV)(hd:Hd)(i dp M Lo:Int)(n:Nd)(c d:Nat)(x8 x9 QD Ra QZ:Option PV)(h:List PO)(e:O_ B (cX B f) (zH hd) n=some (c,d))(h1:hb (.cons n .nil) hd=true)(h2:U_ B n=true)(h3:hun B hd=true)(h4:1≤dp):
  CO t B k a hd i dp n (M+c) (QW Lo (dp - 1+d)) h (bJ (F k) (kE t B i a hd dp M Lo (some (nd n)) x8 x9 QD Ra QZ) h):=by
 have up:∀{o:Option (Nat×Nat)},U0 o=some (c,d)→∃c' d',o=some (c',d')∧c=c'+1∧d=d'+1:=fun{o} z=>by
  cases o with
  |none=>cases z
  |some a=>cases z;exact⟨_,_,rfl,rfl,rfl⟩
 have Y_:∀b:j8,(Vh n=true→RD b=true)→hb b hd=true:=fun b hh=>wv h1 fun z=>hh (by rw[RD,RD]at z;simpa using z);have one:∀(b:j8)(h':Hd)(i':Int)(c' d':Nat),cX B f b (zH h')=some (c',d')→hb b h'=true→TX B b=true→hun B h'=true→F k .H_ [RL t B,.int i',.tup (d9 b),hv h',.int (dp+1)]=.ok (.tup [.int c',.int (lw c' d' (dp+1))]):=fun b h' i' c' d' z1 z2 z3 z4=>ok b h' i' (dp+1) k c' d' z1 z2 z3 z4 (by omega) hk
 have fin:∀(c' d':Nat)(b:j8)(h':Hd),cX B f b (zH h')=some (c',d')→c=c'+1→d=d'+1→M+1+(c':Int)=M+c∧QW (QW Lo dp) (lw c' d' (dp+1))=QW Lo (dp - 1+d):=fun c' d' b h' z e1 e2=>by subst e1 e2;have:=BR (c:=c') (d:=d') (e:=0) (fun y=>by subst y;exact lQ z) h4;rw[Int.natCast_zero,Int.add_zero,Nat.zero_max]at this;exact⟨by clear this;omega,by rw[sv,this,dpe]⟩
 have Ub:∀ ρ h,aJ (G5 10) (fh (F k)) [] ρ h=.nx ρ h:=fun ρ h=>by rw[aJ]
 cases n with
 |text s=>cases e;exact⟨_,_,_,_,_,by
   have e1:dp - 1+((1:Nat):Int)=dp:=by omega
   rw[e1];simp only[EX,bJ,eO,gm,Ub];rfl⟩
 |place p s=>cases e;exact⟨_,_,_,_,_,by
   have e1:dp - 1+((1:Nat):Int)=dp:=by omega
   rw[e1];simp only[EX,bJ,eO,gm,Ub];rfl⟩
 |loop x p b s=>obtain⟨c',d',z,q1,q2⟩:=up e;rw[U_]at h2;obtain⟨f1,f2⟩:=fin c' d' b hd z q1 q2;have st:=ie t B k a (nd (.loop x p b s)) (.lst [Ul i b hd]) hd i dp (M+1) (QW Lo dp) c' (lw c' d' (dp+1)) i b hd x9 QD Ra QZ [] h (one b hd i c' d' z (Y_ b fun y=>by rw[Vh]at y;exact y) h2 h3);rw[Ub,f1,f2]at st;exact⟨_,_,_,_,_,by simp only[EX,bJ,eO,gm,st];rfl⟩
 |choice p y z=>
  obtain⟨c',d',zz,q1,q2⟩:=up e;rw[U_,ab1]at h2
  cases f with
  |zero=>cases zz
  |succ f=>
  obtain⟨c1,d1,c2,d2,r1,r2,r3,r4⟩:=FY _ y z c' d' zz;have ny:hb y hd=true:=Y_ y fun w=>by rw[Vh,ab1]at w;exact w.1
  have nz:hb z hd=true:=Y_ z fun w=>by rw[Vh,ab1]at w;exact w.2
  have s1:=ie t B k a (nd (.choice p y z)) (.lst [Ul i y hd,Ul i z hd]) hd i dp (M+1) (QW Lo dp) c1 (lw c1 d1 (dp+1)) i y hd x9 QD Ra QZ [Ul i z hd] h (one y hd i c1 d1 r1 ny h2.1 h3);have s2:=ie t B k a (nd (.choice p y z)) (.lst [Ul i y hd,Ul i z hd]) hd i dp (M+1+c1) (QW (QW Lo dp) (lw c1 d1 (dp+1))) c2 (lw c2 d2 (dp+1)) i z hd x9 (some (Ul i y hd)) (some (.int c1)) (some (.int (lw c1 d1 (dp+1)))) [] h (one z hd i c2 d2 r2 nz h2.2 h3);have st:=s1.trans s2;have g1:M+1+(c1:Int)+c2=M+c:=by omega
  have g2:QW (QW (QW Lo dp) (lw c1 d1 (dp+1))) (lw c2 d2 (dp+1))=QW Lo (dp - 1+d):=by
   have a1:c1=0→d1=0:=fun y=>by subst y;exact lQ (B:=B) (f:=f+1) (hd:=zH hd) r1
   have a2:c2=0→d2=0:=fun y=>by subst y;exact lQ (B:=B) (f:=f+1) (hd:=zH hd) r2
   have b1:=BR (e:=0) a1 h4;rw[Int.natCast_zero,Int.add_zero,Nat.zero_max]at b1;rw[sv Lo,b1,sv Lo,BR a2 h4,q2,r4,dpe]
  rw[Ub,g1,g2]at st;exact⟨_,_,_,_,_,by simp only[EX,bJ,eO,gm,st];rfl⟩
 |body ps=>
  cases hd with
  |nil=>simp[hb,RD,Vh]at h1
  |cons b i' h'=>
   obtain⟨c',d',z,q1,q2⟩:=up e;rw[hun,ab1]at h3;obtain⟨f1,f2⟩:=fin c' d' b h' z q1 q2;have st:=ie t B k a (nd (.body ps)) (.lst [Ul i' b h']) (.cons b i' h') i dp (M+1) (QW Lo dp) c' (lw c' d' (dp+1)) i' b h' x9 QD Ra QZ [] h (one b h' i' c' d' z h1 h3.1 h3.2);rw[Ub,f1,f2]at st;have e0:∀h,b_ (hv (.cons b i' h')) (.int 0) h=.ok (.tup (d9 b)) h:=fun h=>by rw[hv];rfl
   have e1:∀h,b_ (hv (.cons b i' h')) (.int 1) h=.ok (.int i') h:=fun h=>by rw[hv];rfl
   have e2:∀h,b_ (hv (.cons b i' h')) (.int 2) h=.ok (hv h') h:=fun h=>by rw[hv];show Res.ok (aj h (hv h')) h=_;rw[gm]
   exact⟨_,_,_,_,_,by simp only[EX,bJ,eO,gm,e0,e1,e2,st];rfl⟩
 |use x ps=>
  rw[O_]at e;rw[U_]at h2
  cases l:look B x with
  |none=>rw[l]at e;cases e
  |some q=>
   rw[l]at e h2;obtain⟨c',d',z,q1,q2⟩:=up e;obtain⟨q',ax,hq,lk,ia,ll⟩:=nU t B lB x (by rw[← jn,l];rfl);rw[l]at lk
   cases lk
   have cm:=uV B k;obtain⟨f1,f2⟩:=fin c' d' q.b .nil z q1 q2;have st:=ie t B k a (nd (.use x ps)) (.lst [Ul ax q.b .nil]) hd i dp (M+1) (QW Lo dp) c' (lw c' d' (dp+1)) ax q.b .nil (some (.int ax)) QD Ra QZ [] h (one q.b .nil ax c' d' z h2 (hB q (List.mem_of_getElem? hq)) rfl);rw[Ub,f1,f2]at st;have hn:hv .nil=.non:=rfl;rw[Ul,hn]at st;exact⟨_,_,_,_,_,by simp only[EX,bJ,eO,tx,gm,cm,ll,ia,tu t hq,yb,st];rfl⟩
 |j6 x ps hs b=>
  rw[O_]at e;rw[U_]at h2
  cases l:look B x with
  |none=>rw[l]at e;cases e
  |some q=>
   rw[l]at e;obtain⟨c',d',z,q1,q2⟩:=up e;obtain⟨q',ax,hq,lk,ia,ll⟩:=nU t B lB x (by rw[← jn,l];rfl);rw[l]at lk
   cases lk
   have cm:=uV B k;have z':cX B f q.b (zH (.cons b i hd))=some (c',d'):=z;obtain⟨f1,f2⟩:=fin c' d' q.b (.cons b i hd) z' q1 q2;have st:=ie t B k a (nd (.j6 x ps hs b)) (.lst [Ul ax q.b (.cons b i hd)]) hd i dp (M+1) (QW Lo dp) c' (lw c' d' (dp+1)) ax q.b (.cons b i hd) (some (.int ax)) QD Ra QZ [] h (one q.b (.cons b i hd) ax c' d' z' (Y_ b fun y=>by rw[Vh]at y;exact y) (hB q (List.mem_of_getElem? hq)) (by rw[hun,h2,h3];rfl));rw[Ub,f1,f2]at st;have hn:hv (.cons b i hd)=.tup [.tup (d9 b),.int i,hv hd]:=by rw[hv]
   rw[Ul,hn]at st;have dt:∀h,aj h (.tup [.tup (d9 b),.int i,hv hd])=.tup [.tup (d9 b),.int i,hv hd]:=fun h=>rfl;exact⟨_,_,_,_,_,by simp only[EX,bJ,eO,tx,gm,cm,ll,ia,tu t hq,yb,dt,st];rfl⟩
theorem pC(t:Bool)(B:List Pc)(lB:B.length≤1000)(hB:∀q∈B,TX B q.b=true)(k f:Nat)(ok:tJ t B f)(hk:f≤k)(a:PV)(hd:Hd)(i dp:Int)(h3:hun B hd=true)(h4:1≤dp)(h:List PO):∀(b:j8)(M Lo:Int)(c d:Nat)(x7 x8 x9 QD Ra QZ:Option PV),cX B (f+1) b (zH hd)=some (c,d)→hb b hd=true→TX B b=true→
  ∃y7 y8 y9 Uk Vr Vq,aJ (G5 7) (bJ (F k)) (d9 b) (kE t B i a hd dp M Lo x7 x8 x9 QD Ra QZ) h=.nx (kE t B i a hd dp (M+c) (if c=0 then Lo else QW Lo (dp - 1+d)) y7 y8 y9 Uk Vr Vq) h
 |.nil,M,Lo,c,d,x7,x8,x9,QD,Ra,QZ,e,_,_=>by
  cases e
  exact⟨_,_,_,_,_,_,by rw[d9,aJ];simp;exact⟨rfl,rfl,rfl,rfl,rfl,rfl⟩⟩
 |.cons n r,M,Lo,c,d,x7,x8,x9,QD,Ra,QZ,e,h1,h2=>by
  have e':cR (O_ B (cX B f) (zH hd)) (.cons n r)=some (c,d):=e;rw[TX,ab1]at h2;rw[cR]at e'
  cases e1:O_ B (cX B f) (zH hd) n with
  |none=>rw[e1]at e';cases e'
  |some p=>
   cases e2:cR (O_ B (cX B f) (zH hd)) r with
   |none=>rw[e1,e2]at e';cases e'
   |some q=>
    rw[e1,e2]at e'
    cases e'
    have g2:cX B (f+1) r (zH hd)=some (q.1,q.2):=e2;have p1:=yt (c:=p.1) (d:=p.2) e1;have q0:q.1=0→q.2=0:=fun z=>by rw[z]at g2;exact lQ g2
    obtain⟨y8,y9,Uk,Vr,Vq,one⟩:=zJ t B lB hB k f ok hk a hd i dp M Lo n p.1 p.2 x8 x9 QD Ra QZ h e1 (wv h1 fun z=>by rw[RD,ab1]at z;rw[RD,RD,z.1];rfl) h2.1 h3 h4;obtain⟨z7,z8,z9,z10,z11,z12,rest⟩:=pC t B lB hB k f ok hk a hd i dp h3 h4 h r (M+p.1) (QW Lo (dp - 1+p.2)) q.1 q.2 (some (nd n)) y8 y9 Uk Vr Vq g2 (wv h1 fun z=>by rw[RD,ab1]at z;exact z.2) h2.2;refine⟨z7,z8,z9,z10,z11,z12,?_⟩;rw[d9];refine(dD rfl one).trans (rest.trans ?_);have f1:M+(p.1:Int)+q.1=M+((p.1+q.1:Nat):Int):=by omega
    have f2:(if q.1=0 then QW Lo (dp - 1+p.2)else QW (QW Lo (dp - 1+p.2)) (dp - 1+q.2))=(if p.1+q.1=0 then Lo else QW Lo (dp - 1+((max p.2 q.2:Nat):Int))):=by
     rw[if_neg (by omega:¬ p.1+q.1=0)]
     split
     ·rename_i z;rw[q0 z,Nat.max_eq_left (Nat.zero_le _)]
     ·rw[sv,su (dp - 1+p.2),Xn,Int.add_comm (dp - 1),Int.add_comm (dp - 1),Int.add_comm (dp - 1),Za]
    rw[f1,f2]
theorem pB(t:Bool)(B:List Pc)(lB:B.length≤1000)(hB:∀q∈B,TX B q.b=true):∀f,tJ t B f
 |0=>fun b hd i dp k c d e=>by cases e
 |f+1=>fun b hd i dp k c d e h1 h2 h3 h4 hk=>by
  obtain⟨k',rfl⟩:∃k',k=k'+1:=⟨k - 1,by omega⟩
  obtain⟨y7,y8,y9,Uk,Vr,Vq,lp⟩:=pC t B lB hB k' f (pB t B lB hB f) (by omega) (.tup (d9 b)) hd i dp h3 h4 [] b 0 0 c d none none none none none none e h1 h2
  have r2:F (k'+1) .H_ [RL t B,.int i,.tup (d9 b),hv hd,.int dp]=match jN (F k') [some (RL t B),some (.int i),some (.tup (d9 b)),some (hv hd),some (.int dp),none,none,none,none,none,none,none,none] []with
   |.nx _ _=>.ok .non
   |.rt v h=>di v h
   |_=>.bad:=rfl
  have ff:(if c=0 then 0 else QW 0 (dp - 1+d))=lw c d dp:=by
   unfold lw QW
   split
   ·rfl
   ·split<;>omega
  rw[ff,Int.zero_add]at lp;rw[r2];simp only[EX,jN,lp];rfl
mutual
theorem Gm{B E:List Pc}(pre:∀x q,look E x=some q→look B x=some q∧(q.m=none→RD q.b=true))(m:Option Int)(w:List Int)(ns:List (List Nat)):∀n:Nd,Qn E m ns n=false→Sg E m w ns n=none→U_ B n=true
 |.loop x _ b _,_,h=>by rw[Sg]at h;rw[U_];exact lX pre m _ _ _ b h
 |.choice _ y z,_,h=>by rw[Sg,Option.or_eq_none_iff]at h;rw[U_,lX pre m _ _ _ y h.1,lX pre m _ _ _ z h.2];rfl
 |.j6 _ _ _ b,_,h=>by rw[Sg]at h;rw[U_];exact lX pre m _ _ _ b h
 |.use x ps,e,_=>by
  rw[Qn,Bool.or_eq_false_iff]at e
  cases l:look E x with
  |none=>rw[l]at e;exact absurd e.2 (by simp)
  |some q=>
   rw[l]at e;obtain⟨p1,p2⟩:=pre x q l;have e2:Tc ps q none=false:=e.2
   have qm:q.m=none:=by
    rw[Tc,Bool.or_eq_false_iff]at e2
    cases z:q.m with
    |none=>rfl
    |some i=>rw[z]at e2;exact absurd e2.2 (by simp)
   rw[U_,p1];exact p2 qm
 |.body _,_,_=>rfl
 |.text _,_,_=>rfl
 |.place _ _,_,_=>rfl
theorem lX{B E:List Pc}(pre:∀x q,look E x=some q→look B x=some q∧(q.m=none→RD q.b=true))(m:Option Int)(w:List Int)(k:Nat)(ns:List (List Nat)):∀b:j8,QJ E m w k ns b=none→TX B b=true
 |.nil,_=>rfl
 |.cons n r,h=>by
  rw[QJ]at h
  cases e:Qn E m ns n with
  |true=>rw[e,if_pos rfl]at h;cases h
  |false=>rw[e,if_neg (by decide),Option.or_eq_none_iff]at h;rw[TX,Gm pre m _ _ n e h.1,lX pre m _ _ _ r h.2];rfl
end
theorem tq(len:Nat):∀(r E:List Pc),Tf len E r=none→(∀q∈E,q.m=none→RD q.b=true)→∀q∈r,TX (E++r) q.b=true∧(q.m=none→RD q.b=true)
 |[],_,_,_,q,hq=>by cases hq
 |p::r,E,hf,hE,q,hq=>by
  rw[Tf]at hf
  split at hf
  ·cases hf
  ·rw[Option.or_eq_none_iff]at hf;have np:p.m=none→RD p.b=true:=fun z=>by have h1:=hf.1;rw[z]at h1;exact mF E _ _ _ p.b h1
   rcases List.mem_cons.mp hq with z|z
   ·subst z;refine⟨lX (fun x q' hx=>⟨?_,hE q' (List.mem_of_find?_eq_some hx)⟩) _ _ _ _ _ hf.1,np⟩;unfold look at hx ⊢;rw[List.find?_append,hx];rfl
   ·have:=tq len r (E++ [p]) hf.2 (fun q' h'=>by
     rcases List.mem_append.mp h' with y|y
     ·exact hE q' y
     ·cases List.mem_singleton.mp y;exact np) q z
    rw[List.append_assoc]at this;exact this
noncomputable def atS:j8→Nat→Option Nd
 |.nil,_=>none
 |.cons n _,0=>some n
 |.cons _ r,j+1=>atS r j
inductive Gt:j8→List (List Nat)→List Int→List (List Nat)→Prop where
 |here {b:j8} {ns:List (List Nat)} (j:Int):Gt b ns [j] ns
 |loop {b c:j8} {ns Ss:List (List Nat)} {w:List Int} {j:Nat} {x:List Nat} {p:Ou} {t:List Nat} (e:atS b j=some (.loop x p c t)) (g:Gt c (ns++ [x]) w Ss):Gt b ns ((j:Int)::w) Ss
 |yes {b y z:j8} {ns Ss:List (List Nat)} {w:List Int} {j:Nat} {p:Ou} (e:atS b j=some (.choice p y z)) (g:Gt y ns w Ss):Gt b ns ((j:Int)::0::w) Ss
 |no {b y z:j8} {ns Ss:List (List Nat)} {w:List Int} {j:Nat} {p:Ou} (e:atS b j=some (.choice p y z)) (g:Gt z ns w Ss):Gt b ns ((j:Int)::1::w) Ss
 |use {b c:j8} {ns Ss h:List (List Nat)} {w:List Int} {j:Nat} {x:List Nat} {ps:List Ou} (e:atS b j=some (.j6 x ps h c)) (g:Gt c (ns++h) w Ss):Gt b ns ((j:Int)::w) Ss
mutual
theorem Gy(b:j8)(w:List Int)(j:Nat)(ns:List (List Nat)):∀n:Nd,atS b j=some n→∀x∈Rc (w++ [(j:Int)]) ns n,∃v,x.1=w++v∧Gt b ns v x.2.2
 |.loop y p c t,e,x,hx=>by rw[Rc]at hx;obtain⟨v,h1,h2⟩:=mf c (w++ [(j:Int)]) 0 (ns++ [y]) c (fun i=>by rw[Nat.zero_add]) x hx;exact⟨(j:Int)::v,by rw[h1];simp,.loop e h2⟩
 |.choice p y z,e,x,hx=>by
  rw[Rc]at hx;rcases List.mem_append.mp hx with h|h
  ·obtain⟨v,h1,h2⟩:=mf y (w++ [(j:Int)]++[0]) 0 ns y (fun i=>by rw[Nat.zero_add]) x h;exact⟨(j:Int)::0::v,by rw[h1];simp,.yes e h2⟩
  ·obtain⟨v,h1,h2⟩:=mf z (w++ [(j:Int)]++[1]) 0 ns z (fun i=>by rw[Nat.zero_add]) x h;exact⟨(j:Int)::1::v,by rw[h1];simp,.no e h2⟩
 |.j6 y ps h c,e,x,hx=>by rw[Rc]at hx;obtain⟨v,h1,h2⟩:=mf c (w++ [(j:Int)]) 0 (ns++h) c (fun i=>by rw[Nat.zero_add]) x hx;exact⟨(j:Int)::v,by rw[h1];simp,.use e h2⟩
 |.text _,_,_,hx=>by cases hx
 |.place _ _,_,_,hx=>by cases hx
 |.use _ _,_,_,hx=>by cases hx
 |.body _,_,_,hx=>by cases hx
theorem mf(b:j8)(w:List Int)(j:Nat)(ns:List (List Nat)):∀r:j8,(∀i,atS b (j+i)=atS r i)→∀x∈spS w j ns r,∃v,x.1=w++v∧Gt b ns v x.2.2
 |.nil,_,x,hx=>by cases hx
 |.cons n r,e,x,hx=>by
  rw[spS]at hx;rcases List.mem_cons.mp hx with h|h
  ·subst h;exact⟨[(j:Int)],rfl,.here _⟩
  rcases List.mem_append.mp h with h|h
  ·exact Gy b w j ns n (by have:=e 0;rw[Nat.add_zero]at this;exact this) x h
  ·exact mf b w (j+1) ns r (fun i=>by have:=e (i+1);rw[show j+1+i=j+(i+1) by omega];exact this) x h
end
theorem BP:∀(b:j8)(j:Nat)(n:Nd),atS b j=some n→(d9 b)[j]? =some (nd n)
 |.nil,_,_,h=>by cases h
 |.cons n r,0,m,h=>by rw[d9];cases h;rfl
 |.cons n r,j+1,m,h=>by rw[d9];exact BP r j m h
theorem sr{b:j8}{j:Nat}{n:Nd}(e:atS b j=some n)(h:List PO):b_ (.tup (d9 b)) (.int j) h=.ok (nd n) h:=by rw[xY,dj (v:=nd n) (by omega) (by rw[Int.toNat_natCast];exact BP b j n e)];show Res.ok (aj h (nd n)) h=_;rw[gI]
theorem CI{α:Type}(l:List α)(a:Nat):cut l (some (a:Int)) none=l.drop a:=by
 unfold cut;rw[HT.Rx,HT.R6];rcases Nat.le_total a l.length with q|q
 ·rw[Nat.min_eq_left q,List.take_of_length_le (by rw[List.length_drop];omega)]
 ·rw[Nat.min_eq_right q,List.drop_length,List.take_nil,List.drop_eq_nil_of_le q]
theorem kD(w:List Int)(a:Nat)(h:List PO):lg (wy w) (some (a:Int)) none h=.ok (wy (w.drop a)) h:=by unfold wy;rw[xk,CI,List.map_drop]
theorem pH:∀(b:j8)(j:Nat)(n:Nd),atS b j=some n→wS b=true→wN n=true∧dN n≤dS b
 |.nil,_,_,h,_=>by cases h
 |.cons n r,0,m,h,w=>by rw[wS,ab1]at w;cases h;rw[dS];exact⟨w.1,Nat.le_max_left _ _⟩
 |.cons n r,j+1,m,h,w=>by rw[wS,ab1]at w;obtain⟨a,c⟩:=pH r j m h w.2;rw[dS];exact⟨a,Nat.le_trans c (Nat.le_max_right _ _)⟩
theorem Gt.ne{b:j8}{ns Ss:List (List Nat)}{v:List Int}(g:Gt b ns v Ss):1≤v.length:=by cases g<;>simp
theorem Fo(w:List Int)(h:List PO):cV [wy w] h=.ok (.int w.length) h:=by unfold wy;rw[BY,List.length_map]
theorem zY(j:Int)(w:List Int)(h:List PO):b_ (wy (j::w)) (.int 0) h=.ok (.int j) h:=by unfold wy;rw[xY,List.map_cons,Qu];rfl
theorem IC(j i:Int)(w:List Int)(h:List PO):b_ (wy (j::i::w)) (.int 1) h=.ok (.int i) h:=by unfold wy;rw[xY,List.map_cons,List.map_cons,at1];rfl
theorem rW(w:List Int)(ns:List (List Nat))(b:j8)(h:List PO):aj h (Py w ns b)=Py w ns b:=rfl
theorem xA(w:List Int)(ns:List (List Nat))(b:j8)(h:List PO):b_ (Py w ns b) (.int 1) h=.ok (nms ns) h:=rfl
theorem xz(w:List Int)(ns:List (List Nat))(b:j8)(h:List PO):b_ (Py w ns b) (.int 2) h=.ok (.tup (d9 b)) h:=rfl
abbrev CS:Tx:=ay abx
def BW(k:Nat)(b:j8)(ns:List (List Nat))(v:List Int)(Ss:List (List Nat)):Prop:=∀(p0 p1 p2:PV)(x6 x7:Option PV)(h:List PO),∃N y4 y5 y6 y7,whl CS (eG (F k)) N [some p0,some p1,some p2,some (nms ns),some (.tup (d9 b)),some (wy v),x6,x7] h=.nx [some p0,some p1,some p2,some (nms Ss),y4,y5,y6,y7] h
theorem kF{t:Tx}{f:Sx}{N:Nat}{ρ ρ2:Ev}{h:List PO}{R:SR}(a:t ρ h=.ok true h)(b:f ρ h=.nx ρ2 h)(c:whl t f N ρ2 h=R):whl t f (N+1) ρ h=R:=by rw[whl,a];show(if true=true then match f ρ h with|.nx ρ2 h2=>whl t f N ρ2 h2|.ct ρ2 h2=>whl t f N ρ2 h2|.bk ρ2 h2=>.nx ρ2 h2|.rt v h2=>.rt v h2|.exc v h2=>.exc v h2|.bad=>.bad else .nx ρ h)=R;rw[if_pos rfl,b];exact c
theorem bw(k:Nat){b:j8}{ns Ss:List (List Nat)}{v:List Int}(g:Gt b ns v Ss):wS b=true→ns.length+60 * dS b+60≤100000→BW (k+1) b ns v Ss:=by
 have more:∀{b:j8}{ns:List (List Nat)}{j:Int}{w:List Int}(p0 p1 p2:PV)(x6 x7:Option PV)(h:List PO),1≤w.length→CS [some p0,some p1,some p2,some (nms ns),some (.tup (d9 b)),some (wy (j::w)),x6,x7] h=.ok true h:=fun{b ns j w} p0 p1 p2 x6 x7 h hl=>by have e:decide ((1:Int)<((w.length+1:Nat):Int))=true:=decide_eq_true (by omega);simp only[EX,CS,Fo,e]
 have n1:decide (((1:Nat):Int)=2)=false:=rfl;have n2:decide (((2:Nat):Int)=2)=true:=rfl
 induction g with
 |@here b ns j=>
  intro _ _ p0 p1 p2 x6 x7 h;have e:decide ((1:Int)<((1:Nat):Int))=false:=rfl;have tt:CS [some p0,some p1,some p2,some (nms ns),some (.tup (d9 b)),some (wy [j]),x6,x7] h=.ok false h:=by simp only[EX,CS,Fo,e]
  exact⟨1,_,_,_,_,by rw[whl,tt];rfl⟩
 |@loop b c ns Ss w j x p t e g ih=>intro hw hl p0 p1 p2 x6 x7 h;obtain⟨a1,a2⟩:=pH b j _ e hw;rw[wN,ab1,ab1,ab1]at a1;rw[dN]at a2;obtain⟨N,y4,y5,y6,y7,st⟩:=ih a1.2.2.1 (by rw[List.length_append,List.length_singleton];omega) p0 p1 p2 (some (.lst [Py [] [x] c])) (some (Py [] [x] c)) h;have cp:∀h,bg (F (k+1) .i_) [nd (.loop x p c t)] h=.ok (.lst [Py [] [x] c]) h:=fun h=>aN h (by rw[ah,bH];rfl) (ji k _);have an:=fun h=>lT ns [x] h (by rw[List.length_singleton];omega);have ix:=fun h=>sr e h;have sl:=fun h=>kD ((j:Int)::w) 1 h;refine⟨N+1,y4,y5,y6,y7,kF (more p0 p1 p2 x6 x7 h g.ne) ?_ st⟩;simp only[EX,eG,zY,ix,cp,rW,xA,xz,n1,n2,an,sl];rfl
 |@yes b y z ns Ss w j p e g ih=>intro hw hl p0 p1 p2 x6 x7 h;obtain⟨a1,a2⟩:=pH b j _ e hw;rw[wN,ab1,ab1]at a1;rw[dN]at a2;obtain⟨N,y4,y5,y6,y7,st⟩:=ih a1.2.1 (by omega) p0 p1 p2 (some (.lst [Py [0] [] y,Py [1] [] z])) (some (Py [0] [] y)) h;have cp:∀h,bg (F (k+1) .i_) [nd (.choice p y z)] h=.ok (.lst [Py [0] [] y,Py [1] [] z]) h:=fun h=>aN h (by rw[ah,bH];rfl) (ji k _);have an:=fun h=>lT ns [] h (by rw[List.length_nil];omega);rw[List.append_nil]at an;have ix:=fun h=>sr e h;have sl:=fun h=>kD ((j:Int)::0::w) 2 h;refine⟨N+1,y4,y5,y6,y7,kF (more p0 p1 p2 x6 x7 h (by simp)) ?_ st⟩;simp only[EX,eG,zY,IC,ix,cp,rW,xA,xz,n1,n2,an,sl];rfl
 |@no b y z ns Ss w j p e g ih=>intro hw hl p0 p1 p2 x6 x7 h;obtain⟨a1,a2⟩:=pH b j _ e hw;rw[wN,ab1,ab1]at a1;rw[dN]at a2;obtain⟨N,y4,y5,y6,y7,st⟩:=ih a1.2.2 (by omega) p0 p1 p2 (some (.lst [Py [0] [] y,Py [1] [] z])) (some (Py [1] [] z)) h;have cp:∀h,bg (F (k+1) .i_) [nd (.choice p y z)] h=.ok (.lst [Py [0] [] y,Py [1] [] z]) h:=fun h=>aN h (by rw[ah,bH];rfl) (ji k _);have an:=fun h=>lT ns [] h (by rw[List.length_nil];omega);rw[List.append_nil]at an;have ix:=fun h=>sr e h;have sl:=fun h=>kD ((j:Int)::1::w) 2 h;refine⟨N+1,y4,y5,y6,y7,kF (more p0 p1 p2 x6 x7 h (by simp)) ?_ st⟩;simp only[EX,eG,zY,IC,ix,cp,rW,xA,xz,n1,n2,an,sl];rfl
 |@use b c ns Ss hs w j x ps e g ih=>intro hw hl p0 p1 p2 x6 x7 h;obtain⟨a1,a2⟩:=pH b j _ e hw;rw[wN,ab1,ab1,ab1,ab1]at a1;rw[dN]at a2;have lh:=of_decide_eq_true a1.2.2.2.1;obtain⟨N,y4,y5,y6,y7,st⟩:=ih a1.2.2.2.2 (by rw[List.length_append];omega) p0 p1 p2 (some (.lst [Py [] hs c])) (some (Py [] hs c)) h;have cp:∀h,bg (F (k+1) .i_) [nd (.j6 x ps hs c)] h=.ok (.lst [Py [] hs c]) h:=fun h=>aN h (by rw[ah,bH];rfl) (ji k _);have an:=fun h=>lT ns hs h (by omega);have ix:=fun h=>sr e h;have sl:=fun h=>kD ((j:Int)::w) 1 h;refine⟨N+1,y4,y5,y6,y7,kF (more p0 p1 p2 x6 x7 h g.ne) ?_ st⟩;simp only[EX,eG,zY,ix,cp,rW,xA,xz,n1,n2,an,sl];rfl
def Rv(k:Nat):List Pc→List VL
 |[]=>[]
 |q::r=>spS [(k:Int)] 0 q.ns q.b++Rv (k+1) r
theorem yw:∀(r:List Pc)(k:Nat),(∀q∈r,J5 q.b≤10000)→(Rv k r).length≤10000 * r.length
 |[],_,_=>Nat.zero_le _
 |q::r,k,h=>by have:=yw r (k+1) fun z hz=>h z (List.mem_cons_of_mem _ hz);have:=h q List.mem_cons_self;rw[Rv,List.length_append,dA,List.length_cons];omega
theorem vh(K:Nat)(hK:22≤K)(a:PV):∀(r:List Pc)(k:Nat)(acc:List VL)(x2 x3:Option PV),(∀q∈r,wC q=true∧J5 q.b≤10000)→acc.length+10000 * r.length≤1000000→∃y2 y3,
  aJ aak (bN (F K)) (Rh k (r.map pc)) [some a,some (.lst (acc.map Oa)),x2,x3] []=.nx [some a,some (.lst ((acc++Rv k r).map Oa)),y2,y3] []
 |[],k,acc,x2,x3,_,_=>⟨x2,x3,by rw[List.map_nil,Rh,aJ,Rv,List.append_nil]⟩
 |q::r,k,acc,x2,x3,hr,hl=>by
  rw[List.length_cons]at hl;obtain⟨wq,cq⟩:=hr q List.mem_cons_self;simp only[wC,ab1,decide_eq_true_eq]at wq;obtain⟨w1,w2,w3,w4,w5⟩:=wq;have so:=Ao (dS q.b) q.b [(k:Int)] q.ns K (ab2 _) (by omega) (by simp;omega) (by omega) w4 (by omega);have cs:∀h,bg (F K .G_) [.tup (d9 q.b),.tup [.int k],nms q.ns] h=.ok (.lst ((spS [(k:Int)] 0 q.ns q.b).map Oa)) h:=fun h=>aN h (by simp[ah,PV.pure,aV q.b,bh]) so;have ls:=dA [(k:Int)] 0 q.ns q.b
  have ad:∀h,aB (.lst (acc.map Oa)) (.lst ((spS [(k:Int)] 0 q.ns q.b).map Oa)) h=.ok (.lst ((acc++spS [(k:Int)] 0 q.ns q.b).map Oa)) h:=fun h=>by rw[nY _ _ h (by rw[List.length_map,List.length_map];omega),List.map_append]
  obtain⟨y2,y3,ih⟩:=vh K hK a r (k+1) (acc++spS [(k:Int)] 0 q.ns q.b) (some (.int k)) (some (pc q)) (fun z hz=>hr z (List.mem_cons_of_mem _ hz)) (by rw[List.length_append];omega);refine⟨y2,y3,?_⟩
  have one:bN (F K) [some a,some (.lst (acc.map Oa)),some (.int k),some (pc q)] []=.nx [some a,some (.lst ((acc++spS [(k:Int)] 0 q.ns q.b).map Oa)),some (.int k),some (pc q)] []:=by simp only[EY,bN,cs,ad]
  rw[List.map_cons,Rh,aJ];show(match bN (F K) [some a,some (.lst (acc.map Oa)),some (.int k),some (pc q)] []with|.nx ρ2 h2=>_|.ct ρ2 h2=>_|.bk ρ2 h2=>_|.rt v h2=>_|.exc v h2=>_|.bad=>_)=_;rw[one,Rv,← List.append_assoc];exact ih
theorem Io(K:Nat)(hK:22≤K)(B:List Pc)(hB:∀q∈B,wC q=true∧J5 q.b≤10000)(lB:B.length≤8):F (K+1) .E_ [bk B]=.ok (.lst ((Rv 0 B).map Oa)):=by
 obtain⟨y2,y3,e⟩:=vh K hK (bk B) B 0 [] none none hB (by simp;omega)
 have r2:F (K+1) .E_ [bk B]=match eZ (F K) [some (bk B),none,none,none] []with
   |.nx _ _=>.ok .non
   |.rt v h=>di v h
   |_=>.bad:=rfl
 have e':fS abN aak (bN (F K)) [some (bk B),some (.lst []),none,none] []=.nx [some (bk B),some (.lst ((Rv 0 B).map Oa)),y2,y3] []:=e;have s0:aI 1 abl [some (bk B),none,none,none] []=.nx [some (bk B),some (.lst []),none,none] []:=rfl;rw[r2];unfold eZ;rw[cC,s0];dsimp only;rw[cC,e'];show di (.lst ((Rv 0 B).map Oa)) []=_;exact bz (by rw[PV.pure];exact rj _)
theorem yv:∀(r:List Pc)(k:Nat)(x:VL),x∈Rv k r→∃(i:Nat)(q:Pc),r[i]? =some q∧x∈spS [((k+i:Nat):Int)] 0 q.ns q.b
 |[],_,x,h=>by cases h
 |q::r,k,x,h=>by
  rw[Rv]at h;rcases List.mem_append.mp h with z|z
  ·exact⟨0,q,rfl,z⟩
  ·obtain⟨i,p,a,b⟩:=yv r (k+1) x z;exact⟨i+1,p,a,by rw[show k+(i+1)=k+1+i by omega];exact b⟩
theorem CQ(k:Nat)(B:List Pc)(i:Nat)(q:Pc)(hq:B[i]? =some q)(hw:wC q=true)(x:VL)(hx:x∈spS [(i:Int)] 0 q.ns q.b):F (k+2) .bound [bk B,wy x.1]=.ok (nms x.2.2):=by
 simp only[wC,ab1,decide_eq_true_eq]at hw;obtain⟨w1,w2,w3,w4,w5⟩:=hw;obtain⟨v,e,g⟩:=mf q.b [(i:Int)] 0 q.ns q.b (fun i=>by rw[Nat.zero_add]) x hx;rw[List.singleton_append]at e;rw[e];obtain⟨N,y4,y5,y6,y7,wh⟩:=bw k g w4 (by omega) (bk B) (wy ((i:Int)::v)) (pc q) none none []
 have wh':mj (ay abx) (eG (F (k+1))) [some (bk B),some (wy ((i:Int)::v)),some (pc q),some (nms q.ns),some (.tup (d9 q.b)),some (wy v),none,none] []=.nx [some (bk B),some (wy ((i:Int)::v)),some (pc q),some (nms x.2.2),y4,y5,y6,y7] []:=by rw[yP (n:=N) _ _ (by rw[wh];exact SR.noConfusion)];exact wh
 have r2:F (k+2) .bound [bk B,wy ((i:Int)::v)]=match nX (F (k+1)) [some (bk B),some (wy ((i:Int)::v)),none,none,none,none,none,none] []with
   |.nx _ _=>.ok .non
   |.rt v h=>di v h
   |_=>.bad:=rfl
 have ib:=fun h=>FP (B:=B) hq h;have sl:=fun h=>kD ((i:Int)::v) 1 h;have T9:∀h,lg (wy ((i:Int)::v)) (some 1) none h=.ok (wy v) h:=sl;rw[r2];simp only[EY,nX,zY,ib,T9,wh'];exact bz (bh _)
theorem Ki{α:Type}(l:List α)(h:List PO):Ei [.lst (l.map fun _=>PV.bl false)] h=.ok (.bl false) h:=by
 have e:eX (l.map fun _=>PV.bl false)=some (l.map fun _=>false):=by
  induction l with
  |nil=>rfl
  |cons a r ih=>rw[List.map_cons,eX,ih];rfl
 show(match eX (l.map fun _=>PV.bl false)with|some bs=>Res.ok (PV.bl (bs.any id)) h|none=>.bad)=_;rw[e];have:(l.map fun _=>false).any id=false:=by rw[List.any_eq_false];intro x hx;obtain⟨_,_,rfl⟩:=List.mem_map.mp hx;decide
 show Res.ok (PV.bl ((l.map fun _=>false).any id)) h=_;rw[this]
theorem FD{v:PV}(h:List PO)(hp:fd 59 v)(hs:∀i,v≠.ref i):Qm h v=toD v∧PB h v=true:=by
 have e:Qm h v=toD v:=by cases v<;>first|rfl|exact(hs _ rfl).elim
 refine⟨e,?_⟩;unfold PB;rw[e,hp.1];exact decide_eq_true (Nat.le_trans hp.2.1 (by decide))
theorem EU{v:PV}(h:List PO)(hp:fd 59 v)(hs:∀i,v≠.ref i):M8 v v h=.ok (.bl true) h:=by obtain⟨e,ok⟩:=FD h hp hs;unfold M8;rw[if_pos ⟨ok,ok⟩,e,PySem.SeqAt.eqv_refl _ hp.1]
theorem xP{v:PV}(h:List PO)(hp:fd 59 v)(hs:∀i,v≠.ref i):Ry v v h=.ok (.bl false) h:=by obtain⟨e,ok⟩:=FD h hp hs;unfold Ry;rw[if_pos ⟨ok,ok⟩,e,PySem.SeqAt.eqv_refl _ hp.1];rfl
theorem vi{α:Type}(k:Nat)(g:α→PV)(l:List α)(hp:fd 59 (.tup (l.map g)))(hl:l.length<16777216)(hb:∀x h,fF (F k) [some (g x)] h=.ok (.bl false) h):F (k+1) .K7 [.tup (l.map g),.tup (l.map g)]=.ok (.bl true):=by
 have r2:F (k+1) .K7 [.tup (l.map g),.tup (l.map g)]=match jP (F k) [some (.tup (l.map g)),some (.tup (l.map g))] []with
   |.nx _ _=>.ok .non
   |.rt v h=>di v h
   |_=>.bad:=rfl
 have eq:=fun h=>EU h hp fun i=>by intro z;cases z
 have ln:(l.map g).length<16777216:=by rw[List.length_map];exact hl
 have cm:∀ ρ h,bv cJ (fF (F k)) (bX [] ρ) (l.map g) h=.ok (l.map fun _=>PV.bl false) h:=fun ρ h=>mH g _ l fun x _=>hb x h;have an:=Ki l;rw[r2];simp only[EY,jP,eq,ln,cm,an];rfl
theorem zU(k:Nat)(l:List (List Nat))(hs:Oq l=true)(hl:l.length<16777216):F (k+1) .K7 [nms l,nms l]=.ok (.bl true):=
 vi k PV.str l (bI (wz (d:=0) hs) (by decide)) hl fun x h=>by simp only[EY,fF]
theorem zV(k:Nat)(a b:Int):F (k+1) .K7 [.tup [.int a,.int b],.tup [.int a,.int b]]=.ok (.bl true):=
 vi k PV.int [a,b] (bI (cI (d:=0) (aH (sN _ _) (aH (sN _ _) (cL _)))) (by decide)) (by simp) fun x h=>by simp only[EY,fF]
theorem Al(k:Nat)(b:PV)(hb:b.pure=true)(e:X_ k .h_ [b] []=.exc (.cls 3) []):F (k+1) .N5 [b]=.ok (.str [109,97,110,121]):=by
 have cc:=(tj (fn:=X_ k .h_) [b] (by rw[ah,hb];rfl)).2 (.cls 3) rfl e
 have r2:F (k+1) .N5 [b]=match ig (F k) (X_ k) [some b,none,none] []with
  |.nx _ _=>.ok .non
  |.rt v h=>di v h
  |_=>.bad:=rfl
 have db:aj [] b=b:=nR (h:=[]) hb
 have se:bf (aT ((X_ k) .h_) aal) [some b,none,none] []=.exc (.cls 3) []:=by simp only[EX,db,cc]
 rw[r2];unfold ig;rw[yh,se];rfl
theorem Ds(k:Nat)(b v:PV)(hb:b.pure=true)(hv:v.pure=true)(e:X_ k .h_ [b] []=.ok v []):F (k+1) .N5 [b]=.ok v:=by
 have cc:=(tj (fn:=X_ k .h_) [b] (by rw[ah,hb];rfl)).1 v hv e
 have r2:F (k+1) .N5 [b]=match ig (F k) (X_ k) [some b,none,none] []with
  |.nx _ _=>.ok .non
  |.rt v h=>di v h
  |_=>.bad:=rfl
 have db:aj [] b=b:=nR (h:=[]) hb
 have se:bf (aT ((X_ k) .h_) aal) [some b,none,none] []=.rt v []:=by simp only[EX,db,cc]
 rw[r2];unfold ig;rw[yh,se];exact bz hv
abbrev PJ:List Nat:=[120]
abbrev T4:List Nat:=[102,105,114,115,116]
abbrev Ui:List Nat:=[115,101,99,111,110,100]
abbrev Zq:List Nat:=[109,97,105,110]
abbrev pX:Ou:=⟨PJ,[]⟩
abbrev ZW:Nd:=.place pX [112,108,97,105,110]
noncomputable def P_:Nat→j8→j8
 |0,z=>z
 |a+1,z=>.cons ZW (P_ a z)
noncomputable def Rr(b:j8):Nat→j8
 |0=>b
 |j+1=>.cons (.loop (if j % 2=0 then PJ else[121]) pX (Rr b j) []) .nil
noncomputable def vp(e:Bool)(u:Nd):j8:=if e then .cons u (.cons u .nil)else .cons u .nil
def S5(e:Bool)(p:Nat):Nat→j8
 |0=>P_ p .nil
 |j+1=>vp e (.j6 T4 [pX] [] (S5 e p j))
theorem xQ:∀(a:Nat)(z:j8),d9 (P_ a z)=List.replicate a (nd ZW)++d9 z
 |0,z=>by rw[P_];rfl
 |a+1,z=>by rw[P_,d9,xQ a z,List.replicate_succ];rfl
theorem xr(a:PV)(k:Int):mr [a] k=List.replicate k.toNat a:=by
 unfold mr;generalize k.toNat=n
 induction n with
 |zero=>rfl
 |succ n ih=>rw[List.replicate_succ,List.flatten_cons,ih,List.replicate_succ];rfl
structure LB(D:List Pc)(q:Pc):Prop where
 l:D.length+1≤8
 w:∀p∈D++ [q],wC p=true
 r:∀p∈D++ [q],dS p.b≤6∧J5 p.b≤10000
 f:Tf (D.length+1) [] (D++ [q])=none
 m:q.m=none
 x:∃r,cX (D++ [q]) 60 q.b .nil=some r
theorem FX{B:List Pc}{f g:Nat}{b:j8}{hd:Hd}{r:Nat×Nat}(h:cX B f b hd=some r)(le:f≤g):cX B g b hd=some r:=by
 induction le with
 |refl=>exact h
 |step _ ih=>exact iP B _ b hd r ih
def cS(B:List Pc)(f:Nat)(b:j8)(hd:Hd):Prop:=∃r,cX B f b hd=some r
theorem cS.le{B:List Pc}{f g:Nat}{b:j8}{hd:Hd}(h:cS B f b hd)(le:f≤g):cS B g b hd:=by obtain⟨r,e⟩:=h;exact⟨r,FX e le⟩
theorem cS.nil(B:List Pc)(f:Nat)(hd:Hd):cS B (f+1) .nil hd:=⟨_,rfl⟩
theorem cS.cons{B:List Pc}{f:Nat}{n:Nd}{r:j8}{hd:Hd}(h:∃x,O_ B (cX B f) hd n=some x)(t:cS B (f+1) r hd):cS B (f+1) (.cons n r) hd:=by obtain⟨x,e⟩:=h;obtain⟨y,e2⟩:=t;have Yw:cR (O_ B (cX B f) hd) r=some y:=e2;show∃z,cR (O_ B (cX B f) hd) (.cons n r)=some z;rw[cR,e,Yw];exact⟨_,rfl⟩
theorem wZ{o:Option (Nat×Nat)}(h:∃x,o=some x):∃x,U0 o=some x:=by obtain⟨x,e⟩:=h;rw[e];exact⟨_,rfl⟩
theorem cS.P_{B:List Pc}{f:Nat}{z:j8}{hd:Hd}(h:cS B (f+1) z hd):∀a,cS B (f+1) (P_ a z) hd
 |0=>h
 |a+1=>.cons ⟨_,rfl⟩ (cS.P_ h a)
theorem cS.Rr{B:List Pc}{f:Nat}{b:j8}{hd:Hd}(h:cS B f b hd):∀j,cS B (f+j) (Rr b j) hd
 |0=>h
 |j+1=>.cons (wZ (cS.Rr h j)) (cS.nil B _ hd)
theorem cS.ap{B:List Pc}{f:Nat}{z:j8}{hd:Hd}(h:cS B (f+1) z hd):∀y,cS B (f+1) y hd→cS B (f+1) (O4 y z) hd
 |.nil,_=>h
 |.cons n r,hy=>by
  obtain⟨x,e⟩:=hy;have e':cR (O_ B (cX B f) hd) (.cons n r)=some x:=e;rw[cR]at e'
  cases e1:O_ B (cX B f) hd n with
  |none=>rw[e1]at e';cases e'
  |some u=>
   cases e2:cR (O_ B (cX B f) hd) r with
   |none=>rw[e1,e2]at e';cases e'
   |some v=>exact .cons ⟨u,e1⟩ (cS.ap h r ⟨v,e2⟩)
theorem nK{X:Cx}(hx:X.2.2.contains PJ=true){z:j8}(h:Pz X z=true):∀a,Pz X (P_ a z)=true
 |0=>h
 |a+1=>by rw[P_,Pz,nK hx h a,okN];simp only[Tn,List.all_cons,hx];rfl
theorem EI{ns xs:List (List Nat)}(h:ns.contains PJ=true):(ns++xs).contains PJ=true:=by rw[List.contains_iff_mem]at h ⊢;exact List.mem_append_left _ h
theorem sh{P:List Pe}{m:Option Int}{b:j8}(h:∀ns:List (List Nat),ns.contains PJ=true→Pz (P,m,ns) b=true):∀(j:Nat)(ns:List (List Nat)),ns.contains PJ=true→Pz (P,m,ns) (Rr b j)=true
 |0,ns,hx=>h ns hx
 |j+1,ns,hx=>by have ih:=sh h j _ (EI (xs:=[if j % 2=0 then PJ else[121]]) hx);rw[Rr,Pz,okN,Pz];simp only[Tn,List.all_cons,List.all_nil,hx,Xo,ih];rfl
theorem xM{P:List Pe}{m:Option Int}(e:Bool)(p:Nat)(hu:Vf P T4 1 (some 0)=true):∀(j:Nat)(ns:List (List Nat)),ns.contains PJ=true→Pz (P,m,ns) (S5 e p j)=true
 |0,ns,hx=>nK (X:=(P,m,ns)) hx rfl p
 |j+1,ns,hx=>by
  have ih:=xM (m:=m) e p hu j ns hx
  have one:okN (P,m,ns) (.j6 T4 [pX] [] (S5 e p j))=true:=by have Wn:Vf P T4 [pX].length (some (([]:List (List Nat)).length:Int))=true:=hu;rw[okN,Wn];simp only[Tn,List.all_cons,List.all_nil,hx,Xo,List.append_nil,ih];rfl
  unfold S5 vp
  cases e<;>simp only[Bool.false_eq_true,if_true,if_false,Pz,one]<;>rfl
theorem qY{z:j8}(h:wS z=true):∀a,wS (P_ a z)=true
 |0=>h
 |a+1=>by rw[P_,wS,qY h a];rfl
theorem vn{b:j8}(h:wS b=true):∀j,wS (Rr b j)=true
 |0=>h
 |j+1=>by
  have q:sg (if j % 2=0 then PJ else[121])=true:=by split<;>rfl
  rw[Rr,wS,wN,vn h j,q,wS];rfl
theorem Ac(e:Bool)(p:Nat):∀j,wS (S5 e p j)=true
 |0=>qY rfl p
 |j+1=>by
  have one:wN (.j6 T4 [pX] [] (S5 e p j))=true:=by rw[wN,Ac e p j];rfl
  unfold S5 vp
  cases e<;>simp only[Bool.false_eq_true,if_true,if_false,wS,one]<;>rfl
theorem mO(z:j8):∀a,dS (P_ a z)=dS z∧J5 (P_ a z)=a+J5 z
 |0=>⟨rfl,by rw[P_];omega⟩
 |a+1=>by obtain⟨h1,h2⟩:=mO z a;rw[P_,dS,J5,h1,h2];exact⟨Nat.max_eq_right (Nat.zero_le _),by show 0+1+(a+J5 z)=_;omega⟩
theorem wG(b:j8):∀j,dS (Rr b j)≤dS b+j∧J5 (Rr b j)=J5 b+j
 |0=>⟨ab2 _,rfl⟩
 |j+1=>by obtain⟨h1,h2⟩:=wG b j;rw[Rr,dS,J5,dN,Ph,h2,dS,J5];exact⟨by rw[Nat.max_eq_left (Nat.zero_le _)];omega,by omega⟩
theorem CD(e:Bool)(p:Nat):∀j,dS (S5 e p j)≤j∧J5 (S5 e p j)+2≤2 ^ j * (p+2)
 |0=>by obtain⟨h1,h2⟩:=mO .nil p;show dS (P_ p .nil)≤0∧J5 (P_ p .nil)+2≤2 ^ 0 * (p+2);rw[h1,h2,dS,J5];omega
 |j+1=>by
  obtain⟨h1,h2⟩:=CD e p j;have e2:2 ^ (j+1) * (p+2)=2 * (2 ^ j * (p+2)):=by rw[Nat.pow_succ,Nat.mul_comm (2 ^ j) 2,Nat.mul_assoc]
  rw[e2];unfold S5 vp
  cases e<;>simp only[Bool.false_eq_true,if_true,if_false,dS,J5,dN,Ph]<;>omega
def Sh(a j1:Nat):Pc:=⟨T4,[PJ],some 0,Rr (P_ a (.cons (.body []) .nil)) j1⟩
def T5(e:Bool)(p j2:Nat):Pc:=⟨Ui,[PJ],none,S5 e p j2⟩
def QX(j3 g:Nat):Pc:=⟨Zq,[PJ],none,O4 (Rr (.cons (.use Ui [pX]) .nil) j3) (P_ g .nil)⟩
theorem BJ(X:Cx):∀(y z:j8),Pz X (O4 y z)=(Pz X y&&Pz X z)
 |.nil,z=>by rw[O4,Pz];simp
 |.cons n r,z=>by rw[O4,Pz,Pz,BJ X r z,Bool.and_assoc]
theorem Ae{q:Pc}(h1:sg q.n=true)(h2:Oq q.ns=true)(h3:q.ns.length<60)(h4:wS q.b=true)(h5:dS q.b≤20):wC q=true:=by simp only[wC,h1,h2,h4,decide_eq_true h3,decide_eq_true h5];rfl
theorem CK{a j1 p j2 j3 g:Nat}(e:Bool)(ha:a≤3)(h1:j1≤5)(hp:p≤3)(h2:j2≤4)(h3:j3≤5)(hg:g≤402):LB [Sh a j1,T5 e p j2] (QX j3 g):=by
 have m3:∀{Q:Pc→Prop},Q (Sh a j1)→Q (T5 e p j2)→Q (QX j3 g)→∀q∈ [Sh a j1,T5 e p j2]++[QX j3 g],Q q:=fun q1 q2 q3 q hq=>by simp only[List.cons_append,List.nil_append,List.mem_cons,List.not_mem_nil,or_false]at hq;rcases hq with rfl|rfl|rfl<;>assumption
 obtain⟨d1,c1⟩:=wG (P_ a (.cons (.body []) .nil)) j1;obtain⟨d1',c1'⟩:=mO (.cons (.body []) .nil) a;obtain⟨d2,c2⟩:=CD e p j2;obtain⟨d3,c3⟩:=wG (.cons (.use Ui [pX]) .nil) j3;obtain⟨d3',c3'⟩:=mO .nil g;have z1:dS (.cons (.body []) .nil)=0∧J5 (.cons (.body []) .nil)=1:=by decide
 have z2:dS (.cons (.use Ui [pX]) .nil)=0∧J5 (.cons (.use Ui [pX]) .nil)=1:=by decide
 have z3:dS .nil=0∧J5 .nil=0:=by decide
 have p2:2 ^ j2≤2 ^ 4:=Nat.pow_le_pow_right (by decide) h2;have p2':2 ^ j2 * (p+2)≤2 ^ 4 * 5:=Nat.mul_le_mul p2 (by omega)
 have dd:dS (QX j3 g).b≤5∧J5 (QX j3 g).b≤500:=by show dS (O4 _ _)≤5∧J5 (O4 _ _)≤500;rw[CG,pA,d3',c3',c3];omega
 have ZR: [PJ].length<60:=by decide
 refine⟨by simp,?_,?_,?_,rfl,?_⟩
 ·refine m3 (Ae rfl rfl ZR (vn (qY rfl a) j1) ?_) (Ae rfl rfl ZR (Ac e p j2) ?_) (Ae rfl rfl ZR ?_ (by omega))
  ·show dS (Rr _ _)≤20;omega
  ·show dS (S5 _ _ _)≤20;omega
  ·show wS (O4 _ _)=true;rw[Fq,vn rfl,qY rfl];rfl
 ·refine m3 ?_ ?_ ?_
  ·show dS (Rr _ _)≤6∧J5 (Rr _ _)≤10000;omega
  ·show dS (S5 _ _ _)≤6∧J5 (S5 _ _ _)≤10000;omega
  ·omega
 ·refine ww _ _ [] ?_ (by simp) fun C q h=>by rw[(List.singleton_inj.mp (List.append_inj_right' h rfl)).symm];rfl
  have o1:Pz ([],some 0,[PJ]) (Sh a j1).b=true:=sh (fun ns hx=>nK (X:=([],some 0,ns)) hx rfl a) j1 _ rfl;have o2:Pz ([Sh a j1].map Tj,none,[PJ]) (T5 e p j2).b=true:=xM e p rfl j2 _ rfl
  have o3:Pz ([Sh a j1,T5 e p j2].map Tj,none,[PJ]) (QX j3 g).b=true:=by show Pz _ (O4 _ _)=true;rw[BJ,sh (fun ns hx=>?_) j3 _ rfl,nK rfl rfl g];rfl;rw[Pz,okN,Pz];simp only[Tn,List.all_cons,List.all_nil,hx];rfl
  simp only[List.cons_append,List.nil_append,Ur,List.map_nil];have n1:([]:List (List Nat)).contains (Sh a j1).n=false:=rfl;have n2:([Sh a j1].map (·.n)).contains (T5 e p j2).n=false:=(by decide: [T4].contains Ui=false)
  have n3:([Sh a j1,T5 e p j2].map (·.n)).contains (QX j3 g).n=false:=(by decide: [T4,Ui].contains Zq=false)
  have u:dup [PJ]=false:=by decide
  have u1:dup (Sh a j1).ns=false:=u;have u2:dup (T5 e p j2).ns=false:=u;have u3:dup (QX j3 g).ns=false:=u;have o1':Pz ([],(Sh a j1).m,(Sh a j1).ns) (Sh a j1).b=true:=o1;have o2':Pz ([Sh a j1].map Tj,(T5 e p j2).m,(T5 e p j2).ns) (T5 e p j2).b=true:=o2;have o3':Pz ([Sh a j1,T5 e p j2].map Tj,(QX j3 g).m,(QX j3 g).ns) (QX j3 g).b=true:=o3;rw[n1,n2,n3,u1,u2,u3,o1',o2',o3'];rfl
 ·generalize hB: [Sh a j1,T5 e p j2]++[QX j3 g]=B;have l1:look B T4=some (Sh a j1):=by rw[← hB];rfl
  have l2:look B Ui=some (T5 e p j2):=by rw[← hB];rfl
  have one:∀(f:Nat)(c:j8)(hd:Hd),cS B f c hd→cS B (f+1+j1) (Sh a j1).b (.cons c 0 hd):=fun f c hd h=>cS.Rr (cS.P_ (cS.cons (n:=.body []) (hd:=.cons c 0 hd) (wZ h) (cS.nil B _ _)) a) j1
  have two:∀j,cS B (1+j * (j1+2)) (S5 e p j) .nil:=fun j=>by
   induction j with
   |zero=>rw[Nat.zero_mul];exact cS.P_ (f:=0) (cS.nil B 0 .nil) p
   |succ j ih=>
    have u:∃x,O_ B (cX B (1+j * (j1+2)+1+j1)) .nil (.j6 T4 [pX] [] (S5 e p j))=some x:=by rw[O_,l1];exact wZ (one _ _ _ ih)
    rw[show 1+(j+1) * (j1+2)=1+j * (j1+2)+1+j1+1 by rw[Nat.succ_mul];omega];unfold S5 vp
    cases e
    ·exact .cons u (cS.nil B _ _)
    ·exact .cons u (.cons u (cS.nil B _ _))
  have j4:j2 * (j1+2)≤4 * 7:=Nat.mul_le_mul h2 (by omega);have thr:cS B 31 (.cons (.use Ui [pX]) .nil) .nil:=.cons (f:=30) (by rw[O_,l2];exact wZ ((two j2).le (by omega))) (cS.nil B _ _);exact(cS.ap (f:=30+j3) (cS.P_ (cS.nil B _ _) g) _ (by have:=cS.Rr thr j3;rw[show 30+j3+1=31+j3 by omega];exact this)).le (by omega)
theorem Ke(s:Nat)(h:List PO):b_ (.lst [.str PJ,.str [121]]) (.int ((0+(s:Int)) % 2)) h=.ok (.str (if s % 2=0 then PJ else[121])) h:=by
 rcases(show s % 2=0∨s % 2=1 by omega)with q|q
 ·rw[show(0+(s:Int)) % 2=0 by omega,if_pos q];rfl
 ·rw[show(0+(s:Int)) % 2=1 by omega,if_neg (by omega)];rfl
theorem xT(k:Nat)(b:j8)(m:Int)(h:List PO):∀(r s:Nat)(x2:Option PV),∃y2,aJ (G5 2) (fR (F k)) ((List.range' s r).map fun i=>PV.int (0+(i:Nat))) [some (.tup (d9 (Rr b s))),some (.int m),x2] h=.nx [some (.tup (d9 (Rr b (s+r)))),some (.int m),y2] h
 |0,s,x2=>⟨x2,by rw[List.range',List.map_nil,aJ];rfl⟩
 |r+1,s,x2=>by
  obtain⟨y2,ih⟩:=xT k b m h r (s+1) (some (.int (0+(s:Nat))));refine⟨y2,?_⟩;rw[List.range'_succ,List.map_cons,show s+(r+1)=s+1+r by omega];refine(dD rfl ?_).trans ih;have xy:=Ke s;have e:d9 (Rr b (s+1))=[.tup [.str tL,.str (if s % 2=0 then PJ else[121]),.tup [.str PJ],.tup (d9 (Rr b s)),.str []]]:=by rw[Rr,d9,nd,d9];rfl
  simp only[EY,fR,xy,e]
theorem qw(k:Nat)(b:j8)(m:Int)(h0:0≤m)(h1:m≤5):F (k+1) .K3 [.tup (d9 b),.int m]=.ok (.tup (d9 (Rr b m.toNat))):=by
 have r2:F (k+1) .K3 [.tup (d9 b),.int m]=match iS (F k) [some (.tup (d9 b)),some (.int m),none] []with
   |.nx _ _=>.ok .non
   |.rt v h=>di v h
   |_=>.bad:=rfl
 obtain⟨y2,lp⟩:=xT k b m [] m.toNat 0 none;rw[Nat.zero_add]at lp;have bm:RM 4611686018427387904 m=true:=bR.mpr ⟨by omega,by omega⟩;have rg:List.range m.toNat=List.range' 0 m.toNat:=List.range_eq_range';have lp':aJ (G5 2) (fR (F k)) ((List.range' 0 m.toNat).map fun i=>PV.int (0+(i:Nat))) [some (.tup (d9 b)),some (.int m),none] []=.nx [some (.tup (d9 (Rr b m.toNat))),some (.int m),y2] []:=lp;rw[r2];simp only[EY,iS,bm,rg,lp'];exact bz (by rw[PV.pure];exact aV _)
theorem Ag(e:Bool)(z:j8):d9 (vp e (.j6 T4 [pX] [] z))=mr [.tup [.str tU,.str T4,.tup [.tup [.str PJ]],.tup [],.tup (d9 z)]] (1+if e=true then 1 else 0):=by
 have one:nd (.j6 T4 [pX] [] z)=.tup [.str tU,.str T4,.tup [.tup [.str PJ]],.tup [],.tup (d9 z)]:=by rw[nd];rfl
 rw[xr];unfold vp
 cases e<;>simp only[Bool.false_eq_true,if_true,if_false,d9,one]<;>rfl
theorem xU(k:Nat)(v:Int)(p:Nat)(a1 a2:PV)(h:List PO):∀(r s:Nat)(x4:Option PV),∃y4,aJ (G5 4) (gy (F k)) ((List.range' s r).map fun i=>PV.int (0+(i:Nat))) [some (.int v),some a1,some a2,some (.tup (d9 (S5 (decide (v / 288 % 5=1)) p s))),x4,none,none,none] h=.nx [some (.int v),some a1,some a2,some (.tup (d9 (S5 (decide (v / 288 % 5=1)) p (s+r)))),y4,none,none,none] h
 |0,s,x4=>⟨x4,by rw[List.range',List.map_nil,aJ];rfl⟩
 |r+1,s,x4=>by
  obtain⟨y4,ih⟩:=xU k v p a1 a2 h r (s+1) (some (.int (0+(s:Nat))));refine⟨y4,?_⟩;rw[List.range'_succ,List.map_cons,show s+(r+1)=s+1+r by omega];refine(dD rfl ?_).trans ih;have e:d9 (S5 (decide (v / 288 % 5=1)) p (s+1))=_:=Ag (decide (v / 288 % 5=1)) (S5 (decide (v / 288 % 5=1)) p s);have q1:decide (0<(288:Int)∧(288:Int)<1073741824)=true:=by decide
  have bb:RM 9223372036854775808 (1+if decide (v / 288 % 5=1)=true then 1 else 0)=true∧1 * (1+if decide (v / 288 % 5=1)=true then(1:Int)else 0).toNat≤16777216:=by cases decide (v / 288 % 5=1)<;>exact⟨bR.mpr ⟨by decide,by decide⟩,by decide⟩
  rw[e];simp only[EY,gy,q1,bb]
theorem Yd(v:Int){m k:Int}(hk:0<k):0≤v / m % k∧v / m % k<k:=bL (v / m) hk
theorem wc(k:Int)(h0:0≤k)(h1:k≤1000)(h:List PO):lu (.tup [.tup [.str tP,.tup [.str PJ],.str [112,108,97,105,110]]]) (.int k) h=.ok (.tup (d9 (P_ k.toNat .nil))) h:=by
 have e:nd ZW=.tup [.str tP,.tup [.str PJ],.str [112,108,97,105,110]]:=by rw[nd];rfl
 rw[HH,if_pos ⟨bR.mpr ⟨by omega,by omega⟩,Nat.le_trans (by simp;omega:_≤1000) (by decide)⟩,xr,xQ,e,d9,List.append_nil]
theorem yx:∀z:j8,O4 z .nil=z
 |.nil=>rfl
 |.cons n r=>by rw[O4,yx r]
theorem Bk(z:j8):∀a:Nat,O4 (P_ a .nil) z=P_ a z
 |0=>rfl
 |a+1=>by rw[P_,O4,Bk z a];rfl
theorem CL(k:Nat)(hk:65≤k)(v:Int):∃D q,LB D q∧F (k+1) .N_ [.int v]=.ok (bk (D++ [q])):=by
 obtain⟨k',rfl⟩:∃k',k=k'+1:=⟨k - 1,by omega⟩
 have r4:=bL v (by decide:(0:Int)<4);have i1:=Yd v (m:=4) (by decide:(0:Int)<6);have i2:=Yd v (m:=24) (by decide:(0:Int)<3);have i3:=Yd v (m:=72) (by decide:(0:Int)<4);have i4:=Yd v (m:=1440) (by decide:(0:Int)<6);have i5:=Yd v (m:=8640) (by decide:(0:Int)<4);obtain⟨j3,hj⟩:∃j3,(v / 1440 % 6).toNat=j3:=⟨_,rfl⟩
 have qd:qD 4∧qD 24∧qD 72∧qD 1440∧qD 8640∧qD 288:=by decide
 have m1:=fun h=>wc (v % 4) r4.1 (by omega) h;have m2:=fun h=>wc (1+v / 24 % 3) (by omega) (by omega) h
 have b1:∀h,aB (.tup (d9 (P_ (v % 4).toNat .nil))) (.tup [.tup [.str tB,.tup []]]) h=.ok (.tup (d9 (P_ (v % 4).toNat (.cons (.body []) .nil)))) h:=fun h=>by have l:=gH (P_ (v % 4).toNat .nil);rw[(mO .nil _).2,J5]at l;rw[iT _ _ h (Nat.le_trans (by simp;omega:_≤1000) (by decide)),← Bk (.cons (.body []) .nil),mD,d9,nd,d9];rfl
 have l1:∀h,bg (F (k'+1) .K3) [.tup (d9 (P_ (v % 4).toNat (.cons (.body []) .nil))),.int (v / 4 % 6)] h=.ok (.tup (d9 (Sh (v % 4).toNat (v / 4 % 6).toNat).b)) h:=fun h=>aN h (by simp[ah,PV.pure,aV]) (qw k' _ _ i1.1 (by omega));obtain⟨y4,lc⟩:=xU (k'+1) v (1+v / 24 % 3).toNat (.tup [.str tP,.tup [.str PJ],.str [112,108,97,105,110]]) (.tup (d9 (Sh (v % 4).toNat (v / 4 % 6).toNat).b)) [] (1+v / 72 % 4).toNat 0 none;rw[Nat.zero_add]at lc;have rg:List.range (1+v / 72 % 4).toNat=List.range' 0 (1+v / 72 % 4).toNat:=List.range_eq_range';have br:RM 4611686018427387904 (1+v / 72 % 4)=true:=bR.mpr ⟨by omega,by omega⟩;have Z7:aJ (G5 4) (gy (F (k'+1))) ((List.range' 0 (1+v / 72 % 4).toNat).map fun i=>PV.int (0+(i:Nat))) [some (.int v),some (.tup [.str tP,.tup [.str PJ],.str [112,108,97,105,110]]),some (.tup (d9 (Sh (v % 4).toNat (v / 4 % 6).toNat).b)),some (.tup (d9 (P_ (1+v / 24 % 3).toNat .nil))),none,none,none,none] []=.nx [some (.int v),some (.tup [.str tP,.tup [.str PJ],.str [112,108,97,105,110]]),some (.tup (d9 (Sh (v % 4).toNat (v / 4 % 6).toNat).b)),some (.tup (d9 (T5 (decide (v / 288 % 5=1)) (1+v / 24 % 3).toNat (1+v / 72 % 4).toNat).b)),y4,none,none,none] []:=lc;generalize hA:Sh (v % 4).toNat (v / 4 % 6).toNat=A at l1 Z7;generalize hC:T5 (decide (v / 288 % 5=1)) (1+v / 24 % 3).toNat (1+v / 72 % 4).toNat=C at Z7
 have lb:∀g,g≤402→LB [A,C] (QX j3 g):=fun g hg=>by rw[← hA,← hC];exact CK _ (by omega) (by omega) (by omega) (by omega) (by omega) hg
 have e3:(QX j3 0).b=Rr (.cons (.use Ui [pX]) .nil) j3:=yx _;have u3:d9 (.cons (.use Ui [pX]) .nil)=[.tup [.str tU,.str Ui,.tup [.tup [.str PJ]],.non,.non]]:=by rw[d9,nd,d9];rfl
 have l3:∀h,bg (F (k'+1) .K3) [.tup [.tup [.str tU,.str Ui,.tup [.tup [.str PJ]],.non,.non]],.int (v / 1440 % 6)] h=.ok (.tup (d9 (QX j3 0).b)) h:=fun h=>by rw[e3,← u3,← hj];exact aN h (by simp[ah,PV.pure,aV]) (qw k' _ _ i4.1 (by omega))
 have L0:=lb 0 (by omega);obtain⟨⟨c,d⟩,cx⟩:=L0.x;have un:=tq _ _ [] L0.f (fun q hq=>by cases hq);have cnt:=pB false ([A,C]++[QX j3 0]) (by simp) (fun q hq=>(un q hq).1) 60 (QX j3 0).b .nil 2 1 (k'+1) c d cx ((un _ (by simp)).2 rfl) (un _ (by simp)).1 rfl (by decide) (by omega);have cc:∀h,bg (F (k'+1) .H_) [.lst ([A,C]++[QX j3 0] |>.map pc),.int 2,.tup (d9 (QX j3 0).b),.non,.int 1] h=.ok (.tup [.int c,.int (lw c d 1)]) h:=fun h=>aN h (by simp[ah,PV.pure,aV,fU]) cnt;have aA:pc A=.tup [.str tI,.str T4,.tup [.str PJ],.int 0,.tup (d9 A.b)]:=by rw[← hA];rfl
 have aC:pc C=.tup [.str tI,.str Ui,.tup [.str PJ],.non,.tup (d9 C.b)]:=by rw[← hC];rfl
 have a3:∀g,pc (QX j3 g)=.tup [.str tI,.str Zq,.tup [.str PJ],.non,.tup (d9 (QX j3 g).b)]:=fun g=>rfl;simp only[List.cons_append,List.nil_append,List.map_cons,List.map_nil,aA,aC,a3]at cc;obtain⟨g,g0,g1⟩:∃g:Int,(if 399+v / 8640 % 4 - (c:Int)>0 then 399+v / 8640 % 4 - (c:Int)else 0)=g∧0≤g∧g≤402:=⟨_,rfl,by split<;>omega,by split<;>omega⟩
 have m3:=fun h=>wc g g1.1 (by omega) h
 have b3:∀h,aB (.tup (d9 (QX j3 0).b)) (.tup (d9 (P_ g.toNat .nil))) h=.ok (.tup (d9 (QX j3 g.toNat).b)) h:=fun h=>by have q1:=gH (QX j3 0).b;have q2:=(L0.r (QX j3 0) (by simp)).2;have q3:=gH (P_ g.toNat .nil);rw[(mO .nil _).2,J5]at q3;rw[iT _ _ h (Nat.le_trans (by omega:_≤100000) (by decide)),e3,← mD];rfl
 refine⟨[A,C],QX j3 g.toNat,lb _ (by omega),?_⟩
 have r2:F (k'+1+1) .N_ [.int v]=match jO (F (k'+1)) [some (.int v),none,none,none,none,none,none,none] []with
   |.nx _ _=>.ok .non
   |.rt v h=>di v h
   |_=>.bad:=rfl
 have fb:bk ([A,C]++[QX j3 g.toNat])=.tup [.tup [.str tI,.str T4,.tup [.str PJ],.int 0,.tup (d9 A.b)],.tup [.str tI,.str Ui,.tup [.str PJ],.non,.tup (d9 C.b)],.tup [.str tI,.str Zq,.tup [.str PJ],.non,.tup (d9 (QX j3 g.toNat).b)]]:=by show PV.tup [pc A,pc C,pc (QX j3 g.toNat)]=_;rw[aA,aC,a3]
 have fi:=bz (h:=[]) (dG ([A,C]++[QX j3 g.toNat]));have ad:∀(a b c:PV) h,aB (.lst [a,b]) (.lst [c]) h=.ok (.lst [a,b,c]) h:=fun a b c h=>nY [a,b] [c] h (by simp);rw[fb]at fi ⊢;rw[r2];simp only[EY,jO,qd,ad,m1,m2,b1,l1,br,rg,Z7,l3,cc,g0,m3,b3];exact fi
mutual
theorem Gw(w:List Int)(ns:List (List Nat)):∀n:Nd,wN n=true→∀x∈Rc w ns n,x.2.2.length≤ns.length+60 * dN n
 |.loop n _ b _,hw,x,hx=>by rw[wN,ab1,ab1,ab1]at hw;rw[Rc]at hx;have:=me _ _ _ b hw.2.2.1 x hx;rw[List.length_append,List.length_singleton]at this;rw[dN];omega
 |.choice _ y z,hw,x,hx=>by
  rw[wN,ab1,ab1]at hw;rw[Rc]at hx;have m1:=Nat.le_max_left (dS y) (dS z);have m2:=Nat.le_max_right (dS y) (dS z);rw[dN];rcases List.mem_append.mp hx with h|h
  ·have:=me _ _ _ y hw.2.1 x h;omega
  ·have:=me _ _ _ z hw.2.2 x h;omega
 |.j6 _ _ h b,hw,x,hx=>by rw[wN,ab1,ab1,ab1,ab1]at hw;rw[Rc]at hx;have:=me _ _ _ b hw.2.2.2.2 x hx;have:=of_decide_eq_true hw.2.2.2.1;rw[List.length_append]at*;rw[dN];omega
 |.text _,_,_,hx=>by cases hx
 |.place _ _,_,_,hx=>by cases hx
 |.use _ _,_,_,hx=>by cases hx
 |.body _,_,_,hx=>by cases hx
theorem me(w:List Int)(k:Nat)(ns:List (List Nat)):∀b:j8,wS b=true→∀x∈spS w k ns b,x.2.2.length≤ns.length+60 * dS b
 |.nil,_,_,hx=>by cases hx
 |.cons n r,hw,x,hx=>by
  rw[wS,ab1]at hw;rw[spS]at hx;have m1:=Nat.le_max_left (dN n) (dS r);have m2:=Nat.le_max_right (dN n) (dS r);rw[dS];rcases List.mem_cons.mp hx with h|h
  ·subst h;exact Nat.le_add_right _ _
  rcases List.mem_append.mp h with h|h
  ·have:=Gw _ _ n hw.1 x h;omega
  ·have:=me _ _ _ r hw.2 x h;omega
end
theorem zK(k:Nat)(ns:List Int)(j:Nat):F (k+1) .G8 [cv ns,.int (j:Int)]=.ok (.int (ns.getD j 0)):=by
 have r2:F (k+1) .G8 [cv ns,.int (j:Int)]=match fH (F k) [some (cv ns),some (.int (j:Int))] []with
   |.nx _ _=>.ok .non
   |.rt v h=>di v h
   |_=>.bad:=rfl
 have ln:∀h,cV [cv ns] h=.ok (.int ns.length) h:=fun h=>by unfold cv;rw[FE,List.length_map]
 rw[r2]
 by_cases c:j<ns.length
 ·have d1:decide ((j:Int)<(ns.length:Int))=true:=decide_eq_true (by omega)
  have ix:∀h,b_ (cv ns) (.int (j:Int)) h=.ok (.int (ns.getD j 0)) h:=fun h=>by unfold cv;rw[JP,dj (v:=PV.int (ns.getD j 0)) (by omega) (by rw[Int.toNat_natCast,List.getElem?_map,List.getD_eq_getElem?_getD,List.getElem?_eq_getElem c];rfl)];rfl
  simp only[EY,fH,ln,d1,ix];rfl
 ·have d1:decide ((j:Int)<(ns.length:Int))=false:=decide_eq_false (by omega);have e:ns.getD j 0=0:=by rw[List.getD_eq_getElem?_getD,List.getElem?_eq_none (by omega)];rfl
  simp only[EY,fH,ln,d1,e];rfl
theorem jz(k:Nat)(ns:List Int)(i:Int)(hi:0≤i):∃v:Int,∀h,bg (F (k+1) .G8) [cv ns,.int i] h=.ok (.int v) h:=by have e:=zK k ns i.toNat;rw[Int.toNat_of_nonneg hi]at e;exact⟨_,fun h=>aN h (by simp[ah,iN,PV.pure]) e⟩
theorem BV{S:List (List Nat×Sz)}(h:∀y∈S,nn y.2)(x:List Nat):nn (Oj S x):=by
 unfold Oj
 cases e:S.find? fun y=>y.1==x with
 |none=>exact⟨Int.le_refl _,Int.le_refl _⟩
 |some y=>exact h y (List.mem_of_find?_eq_some e)
theorem Gb:∀(r:List Pc)(S:List (List Nat×Sz)),(∀y∈S,nn y.2)→∀y∈bS S r,nn y.2
 |[],S,h=>by rw[bS];exact h
 |q::r,S,h=>by
  rw[bS];refine Gb r _ fun y hy=>?_;rcases List.mem_append.mp hy with z|z
  ·exact h y z
  ·cases List.mem_singleton.mp z;exact wb (BV h) q.b ⟨Int.le_refl _,Int.le_refl _⟩
theorem LB.num{D:List Pc}{q:Pc}(H:LB D q):∃c d:Nat,(∀t k i,60≤k→F k .H_ [RL t (D++ [q]),.int i,.tup (d9 q.b),.non,.int 1]=.ok (.tup [.int c,.int d]))∧(Oj (bS [] (D++ [q])) q.n).1=c∧(Oj (bS [] (D++ [q])) q.n).2.1=d:=by
 obtain⟨⟨c,d⟩,cx⟩:=H.x;have un:=tq _ _ [] H.f (fun p hp=>by cases hp);have lD:=H.l;have cnt:=fun t k i hk=>pB t (D++ [q]) (by simp;omega) (fun p hp=>(un p hp).1) 60 q.b .nil i 1 k c d cx ((un _ (by simp)).2 H.m) (un _ (by simp)).1 rfl (by decide) hk
 have hlw:lw c d 1=d:=by
  unfold lw
  by_cases z:c=0
  ·subst z;rw[if_pos rfl,lQ cx];rfl
  ·rw[if_neg z];omega
 have hS:=Gc _ (D++ [q]) [] [] rfl H.f;have nS:∀x,nn (Oj (bS [] (D++ [q])) x):=BV (Gb _ [] fun y hy=>by cases hy)
 have hL:∀x p,look (D++ [q]) x=some p→Oj (bS [] (D++ [q])) x=O3 (Oj (bS [] (D++ [q]))) (0,0,0,0) p.b:=fun x p hx=>by have e:=List.find?_some hx;rw[← eq_of_beq e];exact hS p (List.mem_of_find?_eq_some hx)
 have vr:=(FW (D++ [q]) _ nS hL 60 q.b .nil c d cx).a (.inr rfl);rw[← hS q (by simp)]at vr;refine⟨c,d,fun t k i hk=>?_,vr.1.symm,vr.2.symm⟩;have:=cnt t k i hk;rw[hlw]at this;exact this
theorem qB(k:Nat)(B:List Pc)(hw:∀q∈B,wC q=true)(a0 a2 a3 a4 a5 a6 a7:Option PV)(h:List PO):∀(l:List VL)(x8 x9 QD:Option PV),(∀x∈l,x∈Rv 0 B)→∃y8 y9 Uk,
  aJ abw (nE (F (k+2))) (l.map Oa) [a0,some (bk B),a2,a3,a4,a5,a6,a7,x8,x9,QD] h=.nx [a0,some (bk B),a2,a3,a4,a5,a6,a7,y8,y9,Uk] h
 |[],x8,x9,QD,_=>⟨x8,x9,QD,by rw[List.map_nil,aJ]⟩
 |x::r,x8,x9,QD,hl=>by
  obtain⟨y8,y9,Uk,ih⟩:=qB k B hw a0 a2 a3 a4 a5 a6 a7 h r (some (wy x.1)) (some (nd x.2.1)) (some (nms x.2.2)) fun z hz=>hl z (List.mem_cons_of_mem _ hz);refine⟨y8,y9,Uk,?_⟩;obtain⟨i,q,hq,hx⟩:=yv B 0 x (hl x List.mem_cons_self);rw[Nat.zero_add]at hx;have wq:=hw q (List.mem_of_getElem? hq);have be:=CQ k B i q hq wq x hx;simp only[wC,ab1,decide_eq_true_eq]at wq;obtain⟨w1,w2,w3,w4,w5⟩:=wq;have ok:=lZ _ _ _ w2 q.b w4 x hx;have nl:=me _ _ _ q.b w4 x hx;have al:=zU (k+1) x.2.2 ok.2 (by omega);have cb:∀h,bg (F (k+2) .bound) [bk B,wy x.1] h=.ok (nms x.2.2) h:=fun h=>aN h (by simp[ah,dG,df]) be;have ca:∀h,bg (F (k+2) .K7) [nms x.2.2,nms x.2.2] h=.ok (.bl true) h:=fun h=>aN h (by simp[ah,bh]) al
  have one:nE (F (k+2)) [a0,some (bk B),a2,a3,a4,a5,a6,a7,some (wy x.1),some (nd x.2.1),some (nms x.2.2)] h=.nx [a0,some (bk B),a2,a3,a4,a5,a6,a7,some (wy x.1),some (nd x.2.1),some (nms x.2.2)] h:=by simp only[EY,nE,cb,ca]
  rw[List.map_cons];exact(dD rfl one).trans ih
def jx(c d:Nat)(q:Pc):PV:=if(decide ((c:Int)>400)||decide ((d:Int)>24))=true then .str [109,97,110,121]else nms q.ns
theorem Id{c d:Nat}{q:Pc}(h:Oq q.ns=true):fd 59 (jx c d q)∧(∀i,jx c d q≠.ref i)∧(∀hp,aj hp (jx c d q)=jx c d q)∧∃b,∀hp,dB [jx c d q,.ty "tuple"] hp=.ok (.bl b) hp:=by
 unfold jx
 split
 ·exact⟨cY (by decide),fun i z=>(by cases z),fun _=>rfl,false,fun _=>rfl⟩
 ·exact⟨bI (wz (d:=0) h) (by decide),fun i z=>(by cases z),fun _=>rfl,true,fun _=>rfl⟩
theorem qA{D:List Pc}{q:Pc}(H:LB D q){c d:Nat}(h1:(Oj (bS [] (D++ [q])) q.n).1=c)(h2:(Oj (bS [] (D++ [q])) q.n).2.1=d)(a0 a7 a8 a9 a10:Option PV)(h:List PO)(i:Int)(x6:Option PV):∃y6,
  nF (F 139) [a0,some (bk (D++ [q])),some (.int c),some (.int d),some (jx c d q),some (.int i),x6,a7,a8,a9,a10] h=.nx [a0,some (bk (D++ [q])),some (.int c),some (.int d),some (jx c d q),some (.int i),y6,a7,a8,a9,a10] h:=by
 have wq:=H.w q (by simp);simp only[wC,ab1,decide_eq_true_eq]at wq;obtain⟨f1,f2,f3,b,f4⟩:=Id (c:=c) (d:=d) (q:=q) wq.2.1;have be:=(Fh 137 D q (by decide) H.l H.w fun p hp=>⟨(H.r p hp).1,Nat.le_trans (H.r p hp).2 (by decide)⟩).2 H.f;rw[h1,h2]at be
 have ub:F 139 .N5 [bk (D++ [q])]=.ok (jx c d q):=by
  have du:jx c d q=if(decide ((c:Int)>400)||decide ((d:Int)>24))=true then .str [109,97,110,121]else nms q.ns:=rfl
  cases e:decide ((c:Int)>400)||decide ((d:Int)>24)with
  |true=>rw[e,if_pos rfl]at be du;rw[du];exact Al 138 _ (dG _) be
  |false=>rw[e,if_neg (by decide)]at be du;rw[du];exact Ds 138 _ _ (dG _) (bh _) be
 have sz:=ue 138 (by decide) D q H.l (fun p hp=>⟨(H.r p hp).1,Nat.le_trans (H.r p hp).2 (by decide)⟩) H.f;rw[h1,h2]at sz;have ct:∀h,bg (F 139 .N5) [bk (D++ [q])] h=.ok (jx c d q) h:=fun h=>aN h (by simp[ah,dG]) ub;have cz:∀h,bg (F 139 .sized) [bk (D++ [q])] h=.ok (.tup [.int c,.int d]) h:=fun h=>aN h (by simp[ah,dG]) sz;have ca:∀h,bg (F 139 .K7) [.tup [.int c,.int d],.tup [.int c,.int d]] h=.ok (.bl true) h:=fun h=>aN h rfl (zV 138 c d);have ne:=fun h=>xP h f1 f2;have nb:∀h,Ry (.bl b) (.bl b) h=.ok (.bl false) h:=fun h=>xP h (JW _ _) fun i z=>by cases z
 exact⟨some (jx c d q),by simp only[EY,nF,ct,cz,ca,ne,f3,f4,nb]⟩
theorem Cd:∀ns:List Int,ns.length≤63→F 140 .law [.Qs (ns.map PV.int)]=.ok (.bl true):=fun cs hc=>by
 suffices S:∃h,vd (F 139) (L 139) [some (cv cs),none,none,none,none,none,none,none,none,none,none] []=.rt (.bl true) h by
  obtain⟨h,e⟩:=S
  have r2:F 140 .law [.Qs (cs.map PV.int)]=match vd (F 139) (L 139) [some (cv cs),none,none,none,none,none,none,none,none,none,none] []with
   |.nx _ _=>.ok .non
   |.rt v h=>di v h
   |_=>.bad:=rfl
  rw[r2,e];exact bz rfl
 obtain⟨v0,e0⟩:=jz 138 cs 0 (by decide);obtain⟨v1,e1⟩:=jz 138 cs 1 (by decide);obtain⟨v2,e2⟩:=jz 138 cs 2 (by decide);obtain⟨ms,ml,hm,⟨md,mw⟩,en⟩:=zu 138 v0;have cn:∀h,bg (F 139 .M_) [.int v0] h=.ok (Pr ms) h:=fun h=>aN h rfl en;obtain⟨B,n,m,b1,b8,hB,ho,hx,eg⟩:=EJ 138 (by decide) cs hc ms ml hm md mw;have cg:=dg (fn:=L 139 .o9) [cv cs] [Pr ms] (h:=[J2 0 40]) (i:=0) (by rw[ah,iN];rfl) (by rw[ah,oY];rfl) rfl (bx _ _) eg (dG B) (bx _ _);have cg':bY (L 139 .o9) [cv cs,.ref 0,Pr ms] [J2 0 40]=.ok (bk B) [J2 n m]:=cg;have mk:gk [.int 0,.int 40] []=.ok (.ref 0) [J2 0 40]:=rfl
 let Q:SR→Prop:=fun R=>∃h,R=.rt (.bl true) h;show Q _;unfold vd;refine fj [some (cv cs),some (bk B),none,none,none,none,none,none,none,none,none] [J2 n m] (by simp only[EY,mk,e0,cn,cg']) ?_;refine xn (fun(z:List Pc×Pc)=>[some (cv cs),some (bk (z.1++ [z.2])),none,none,none,none,none,none,none,none,none]) (fun _=> [J2 n m]) (fun z=>LB z.1 z.2) ?_ fun z hz=>?_
 ·obtain⟨D,q,rfl⟩:∃D q,B=D++ [q]:=by
   rcases List.eq_nil_or_concat B with rfl|⟨D,q,rfl⟩
   ·rw[List.length_nil]at b1;omega
   ·exact⟨D,q,by rw[List.concat_eq_append]⟩
  rw[List.length_append,List.length_singleton]at b8;obtain⟨h1,r,h2⟩:=hx D q rfl
  have good:LB D q:=⟨b8,fun p hp=>(hB p hp).1,fun p hp=>⟨Nat.le_trans (hB p hp).2.1 (by decide),(hB p hp).2.2⟩,ww _ _ [] ho (by simp) fun C p e=>by have:q=p:=List.singleton_inj.mp (List.append_inj_right' e rfl);rw[← this];exact h1,h1,r,FX h2 (by decide)⟩
  cases c1:decide (v1 % 4=1)with
  |false=>exact⟨(D,q),good,by simp only[EY,e1,c1]⟩
  |true=>
   obtain⟨D',q',g1,g2⟩:=CL 138 (by decide) (v2 * 48271 % 1000003);have cc:∀h,bg (F 139 .N_) [.int (v2 * 48271 % 1000003)] h=.ok (bk (D'++ [q'])) h:=fun h=>aN h rfl g2;have qm:qM 1000003:=by decide
   exact⟨(D',q'),g1,by simp only[EY,e1,c1,e2,qm,cc]⟩
 obtain⟨D,q⟩:=z;dsimp only at hz ⊢;obtain⟨c,d,k1,k2,k3⟩:=hz.num;have cnt:=k1 true 139 (((D++ [q]).length:Int) - 1) (by decide);have cc:∀h,bg (F 139 .H_) [bk (D++ [q]),.int (((D++ [q]).length:Int) - 1),.tup (d9 q.b),.non,.int 1] h=.ok (.tup [.int c,.int d]) h:=fun h=>aN h (by simp[ah,dG,PV.pure,aV]) cnt;refine fj [some (cv cs),some (bk (D++ [q])),some (.int c),some (.int d),none,none,none,none,none,none,none] [J2 n m] (by simp only[EY,nN,cc]) ?_;refine fj [some (cv cs),some (bk (D++ [q])),some (.int c),some (.int d),some (nms q.ns),none,none,none,none,none,none] [J2 n m] (by simp only[EY,nN]) ?_
 refine fj [some (cv cs),some (bk (D++ [q])),some (.int c),some (.int d),some (jx c d q),none,none,none,none,none,none] [J2 n m] (by
  have du:jx c d q=if(decide ((c:Int)>400)||decide ((d:Int)>24))=true then .str [109,97,110,121]else nms q.ns:=rfl
  rw[du]
  cases c1:decide ((c:Int)>400)with
  |true=>simp only[EY,c1]
  |false=>cases c2:decide ((d:Int)>24)<;>simp only[EY,c1,c2]) ?_
 obtain⟨y6,t1⟩:=qA hz k2 k3 (some (cv cs)) none none none none [J2 n m] (0+((0:Nat):Int)) none;obtain⟨z6,t2⟩:=qA hz k2 k3 (some (cv cs)) none none none none [J2 n m] (0+((1:Nat):Int)) y6;have b2:RM 4611686018427387904 2=true:=rfl
 have two:aJ (G5 5) (nF (F 139)) ((List.range 2).map fun i=>PV.int (0+(i:Nat))) [some (cv cs),some (bk (D++ [q])),some (.int c),some (.int d),some (jx c d q),none,none,none,none,none,none] [J2 n m]=.nx [some (cv cs),some (bk (D++ [q])),some (.int c),some (.int d),some (jx c d q),some (.int (0+((1:Nat):Int))),z6,none,none,none,none] [J2 n m]:=
  (dD rfl t1).trans ((dD rfl t2).trans rfl)
 have r2:List.range (Int.toNat 2)=List.range 2:=rfl;refine fj _ _ (by simp only[EY,b2,r2,two];rfl) ?_;have lD:=hz.l;have lB:(D++ [q]).length≤8:=by rw[List.length_append,List.length_singleton];exact lD
 have hr:∀p∈D++ [q],J5 p.b≤10000:=fun p hp=>(hz.r p hp).2;have sp:=Io 138 (by decide) (D++ [q]) (fun p hp=>⟨hz.w p hp,hr p hp⟩) lB;have cs':∀h,bg (F 139 .E_) [bk (D++ [q])] h=.ok (.lst ((Rv 0 (D++ [q])).map Oa)) h:=fun h=>aN h (by simp[ah,dG]) sp;have la:=yw (D++ [q]) 0 hr;refine fj _ _ (by simp only[EY,cs'];rfl) ?_
 obtain⟨w8,w9,YT,ls⟩:=qB 137 (D++ [q]) hz.w (some (cv cs)) (some (.int c)) (some (.int d)) (some (jx c d q)) (some (.int (0+((1:Nat):Int)))) z6 (some (.lst ((Rv 0 (D++ [q])).map Oa))) [J2 n m] (cut (Rv 0 (D++ [q])) none (some 20)++cut (Rv 0 (D++ [q])) (some (-20)) none) none none none fun x hx=>by rcases List.mem_append.mp hx with z|z<;>exact jJ z
 have ad:∀h,aB (.lst (cut ((Rv 0 (D++ [q])).map Oa) none (some 20))) (.lst (cut ((Rv 0 (D++ [q])).map Oa) (some (-20)) none)) h=.ok (.lst ((cut (Rv 0 (D++ [q])) none (some 20)++cut (Rv 0 (D++ [q])) (some (-20)) none).map Oa)) h:=fun h=>by have x1:=jK ((Rv 0 (D++ [q])).map Oa) none (some 20);have x2:=jK ((Rv 0 (D++ [q])).map Oa) (some (-20)) none;rw[List.length_map]at x1 x2;rw[nY _ _ h (by omega),List.map_append,lN,lN]
 generalize cut (Rv 0 (D++ [q])) none (some 20)++cut (Rv 0 (D++ [q])) (some (-20)) none=sl at ls ad;generalize(Rv 0 (D++ [q])).map Oa=av at ls ad;refine fj _ _ (by simp only[EY,ad,ls];rfl) ?_;exact⟨_,rfl⟩
end K8
namespace PySem.W.Fast
open Lean in
local macro_rules|`(command|#check tws)=>do let p:=`PySem.Challenge;let q:=p.str "cw_formsmith_k08_bound_names_holds";let c←((List.range 408).map (fun i=>q.str s!"o_{i+43}")++("heap_46 tree_167 sts_190 tree_189 tree_450 tree_108 sts_146 sts_168 env_41 sts_64 heap_39 sts_234 tree_319 sts_49 tree_145 tree_401 tree_47 heap_451 tree_123 tree_233 sts_109 view_39 tree_93 sts_94 sts_124 sts_402 sts_320 sts_79 tree_78 tree_63".splitOn.map q.str)++[p.str "pw_formsmith_k08_bound_names",p.str "rw_formsmith_k08_bound_names"]).mapM fun n=>`(command|theorem $(mkIdent (.mkSimple s!"tw{n.hash}")):ident:True:=⟨⟩);return mkNullNode c.toArray
#check tws
end PySem.W.Fast
open PySem PySem.W PyProof.Rows
set_option maxRecDepth 100000 in
set_option maxHeartbeats 0 in
theorem PySem.Challenge.cw_formsmith_k08_bound_names_holds : PySem.Challenge.rw_formsmith_k08_bound_names.Holds := by
  w_on; o_law; k_head; (case hw => w_witness2)
  k_fill
  refine L3.Cc (l := PySem.Challenge.rw_formsmith_k08_bound_names) (k := 140) (x := "_law_script") rfl rfl ⟨rfl, by decide, by decide, rfl⟩ (fun w h Y => W.kIn_of Y) ?F
  case F =>
    intro w mg fa h KX G Yi
    refine' K8.Im K8.Cd KX G Yi ?Pj ?Rk ?Pk ?QL ?Sq ?QM ?QS ?QK ?Rj ?Zt ?cg2 ?Qf ?Qd ?Qa ?Qg ?Qe ?Qc ?t_ ?q_ ?m7 ?w6 ?G3 ?v9 ?p8 ?p7 ?j9 ?u9 ?u6 ?m_ ?A_ ?G4 ?z_ ?u5 ?u0 ?j_ ?OD ?Oz ?Ow ?PX ?PN ?PL ?N7 ?n6 ?n8 ?QC ?QB ?Qz ?Qy ?Qx ?Qw ?hf ?K6 ?o8 ?Oo ?Om ?hn
    (case Pj=>k_is);(case Rk=>k_is);(case Pk=>k_is);(case QL=>k_is);(case Sq=>k_is);(case QM=>k_is);(case QS=>k_is);(case QK=>k_is);(case Rj=>k_is);(case Zt=>k_is);(case cg2=>k_is);(case Qf=>k_is);(case Qd=>k_is);(case Qa => first | rfl | kernel_rfl)
    (case Qg=>k_is);(case Qe=>k_is);(case Qc => first | rfl | kernel_rfl)
    (case t_ => kit_is)
    (case q_ => kit_is)
    (case m7 => kit_is)
    (case w6 => kit_is)
    (case G3 => kit_is)
    (case v9 => kit_is)
    (case p8 => kit_is)
    (case p7 => kit_is)
    (case j9 => kit_is)
    (case u9 => kit_is)
    (case u6 => kit_is)
    (case m_ => kit_is)
    (case A_ => kit_is)
    (case G4 => kit_is)
    (case z_ => kit_is)
    (case u5 => kit_is)
    (case u0 => kit_is)
    (case j_ => kit_is)
    (case OD=>k_is);(case Oz=>k_is);(case Ow=>k_is);(case PX=>k_is);(case PN=>k_is);(case PL=>k_is);(case N7 => k_exc)
    (case n6 => kts_exm)
    (case n8 => kts_exm)
    (case QC => first | rfl | kernel_rfl)
    (case QB=>k_is);(case Qz => first | rfl | kernel_rfl)
    (case Qy=>k_is);(case Qx=>k_is);(case Qw=>k_is)
    (case hf => intro f; cases f <;> (refine' K8.fq (Ad := K8.adP _ _ _) ?fa ?fl ?fc ?fk ?fb; (case fa => dsimp only [K8.adP]; first | k_is | ((repeat' apply And.intro) <;> k_is)); (case fl=>k_is); (case fc=>k_is); (case fk=>k_is); (case fb => intro _ _ _ _ _ _ us hl; first | (obtain rfl := K8.us0 hl; rfl) | (obtain ⟨_, rfl⟩ := K8.us1 hl; rfl) | (obtain ⟨_, _, rfl⟩ := K8.us2 hl; rfl) | (obtain ⟨_, _, _, rfl⟩ := K8.us3 hl; rfl) | (obtain ⟨_, _, _, _, rfl⟩ := K8.us4 hl; rfl) | (obtain ⟨_, _, _, _, _, rfl⟩ := K8.us5 hl; rfl) | (obtain ⟨_, _, _, _, _, _, rfl⟩ := K8.us6 hl; rfl) | (obtain ⟨_, _, _, _, _, _, _, rfl⟩ := K8.us7 hl; rfl))))
    (case K6=>k_is);(case o8=>k_is);(case Oo=>k_is);(case Om=>k_is)
    (case hn => intro i; cases i <;> k_is)
