import PyProof.Rows.All
import Wide.All
import OpenK.AllK
import Wide.FinOn
import Lean
import PyProof.EqAt
import PyProof.EqKinds
import PyProof.TupleCall
import PyProof.StationsW
import KE.KTryMore
import PyProof.ExcAttrAll.ValueError
import PyProof.ExcClass3
import PyProof.InstStoreFacts
import KE.KDictList
import KE.KEqDict
import KE.KDictSum
import PyProof.Rows.SortStr
import PyProof.Draws
import PyProof.EnumMake
import KE.KRevIter
import PyProof.TupleOps
import PyProof.Rows.Tup
import PyProof.ListNew
import PyProof.ListStr
import PyProof.CollectWalk
import KE.KDictOf
import PyProof.AttrMissHeap
import KE.LcSums
import PyProof.StrCalls
import PyProof.ZipIter
import PySem.Challenge.RW_formsmith_k12_what_names_stand_for
noncomputable section
set_option Elab.async false
set_option linter.all false
set_option maxRecDepth 100000
namespace L2
open PySem PySem.Spec PyProof.Rows
theorem abk(a b:Bool):((a&&b)=true)=(a=true∧b=true):=Bool.and_eq_true a b
theorem abl(n:Nat):n≤n:=Nat.le_refl n
abbrev Key:=Sum Int Str
noncomputable def oz:Key→Value→Bool
 |.inl k,v=>Value.isInt k v
 |.inr x,v=>Value.isStrOf x v
noncomputable def Nn(w:World):Key→Int
 |.inl k=>hashInt k
 |.inr x=>hashStr w x
theorem bW:∀{k:Key}{v:Value},oz k v=true→(∃i t,k=Sum.inl i∧v=Value.int i t)∨(∃x t,k=Sum.inr x∧v=Value.str x t)
 |.inl i,v,h=>by obtain⟨t,e⟩:=Value.isInt_shape (k:=i) (v:=v) h;exact .inl ⟨i,t,rfl,e⟩
 |.inr x,v,h=>by obtain⟨t,e⟩:=Value.isStrOf_shape (x:=x) (v:=v) h;exact .inr ⟨x,t,rfl,e⟩
theorem yP(i:Int)(t:Tok):oz (.inl i) (.int i t)=true:=by simp[oz,Value.isInt]
theorem yO(x:Str)(t:Tok):oz (.inr x) (.str x t)=true:=by simp[oz,Value.isStrOf]
theorem Iq(a b:Int):decide ((Sum.inl a:Key)=Sum.inl b)=(a==b):=by
 by_cases e:a=b
 ·subst e;simp
 ·have h:¬ (Sum.inl a:Key)=Sum.inl b:=fun q=>e (Sum.inl.inj q);rw[decide_eq_false h];exact(beq_eq_false_iff_ne.mpr e).symm
theorem Im(a b:Str):decide ((Sum.inr a:Key)=Sum.inr b)=decide (a=b):=by
 by_cases e:a=b
 ·subst e;simp
 ·have h:¬ (Sum.inr a:Key)=Sum.inr b:=fun q=>e (Sum.inr.inj q);rw[decide_eq_false h,decide_eq_false e]
theorem Ip(a:Int)(b:Str):decide ((Sum.inl a:Key)=Sum.inr b)=false:=decide_eq_false (fun q=>nomatch q)
theorem Io(a:Str)(b:Int):decide ((Sum.inr a:Key)=Sum.inl b)=false:=decide_eq_false (fun q=>nomatch q)
def bF(prog:Program)(w:World):PySem.KeyKind prog w Key where
 is:=oz
 hash:=Nn w
 inj:=fun v a b ha hb=>by
  rcases bW ha with⟨i,t,rfl,rfl⟩|⟨x,t,rfl,rfl⟩
  ·rcases bW hb with⟨j,u,rfl,e⟩|⟨y,u,rfl,e⟩
   ·injection e with e1 _;rw[e1]
   ·exact nomatch e
  ·rcases bW hb with⟨j,u,rfl,e⟩|⟨y,u,rfl,e⟩
   ·exact nomatch e
   ·injection e with e1 _;rw[e1]
 byValue:=fun k v h=>by rcases bW h with⟨i,t,rfl,rfl⟩|⟨x,t,rfl,rfl⟩<;>rfl
 pyHash:=fun hv h=>by
  rcases bW hv with⟨i,t,rfl,rfl⟩|⟨x,t,rfl,rfl⟩
  ·exact wpAny_pyHash_int h
  ·exact wpAny_pyHash_str h
 eqBool:=fun hu hv h=>by
  rcases bW hu with⟨i,t,rfl,rfl⟩|⟨x,t,rfl,rfl⟩
  ·rcases bW hv with⟨j,u,rfl,rfl⟩|⟨y,u,rfl,rfl⟩
   ·rw[Iq]at h;exact wpAny_eqBool_int h
   ·rw[Ip]at h;exact SeqAt.EqAt.int_str i t y u _ _ _ _ h
  ·rcases bW hv with⟨j,u,rfl,rfl⟩|⟨y,u,rfl,rfl⟩
   ·rw[Io]at h;exact SeqAt.EqAt.str_int x t j u _ _ _ _ h
   ·rw[Im]at h;exact wpAny_eqBool_str h
 «strs» :=fun k x t v h=>by
  rcases bW h with⟨i,u,rfl,e⟩|⟨y,u,rfl,e⟩
  ·exact nomatch e
  ·injection e with e1 _
   subst e1
   cases v<;>rfl
theorem vL(prog:Program)(w:World)(k:Key)(v:Value):(bF prog w).is k v=oz k v:=rfl
theorem uh(prog:Program)(w:World)(i:Int)(t:Tok):(bF prog w).is (.inl i) (.int i t)=true:=yP i t
theorem ug(prog:Program)(w:World)(x:Str)(t:Tok):(bF prog w).is (.inr x) (.str x t)=true:=yO x t
inductive V where
 |non|bl (b:Bool)|int (i:Int)|str (x:Str)|YX (b:Array UInt8)|flt (b:UInt64)|ref (a:Addr)|ty (n:String)
 deriving DecidableEq
def aQ:V→Value→Prop
 |.non,u=>u=Value.none
 |.bl b,u=>u=Value.bool b
 |.int i,u=>∃t,u=Value.int i t
 |.str x,u=>∃t,u=Value.str x t
 |.YX b,u=>∃t,u=Value.bytes b t
 |.flt b,u=>∃t,u=Value.float b t
 |.ref a,u=>u=Value.ref a
 |.ty n,u=>u=Value.type n
abbrev aL:List V→List Value→Prop:=Paired aQ
theorem aL.length{xs:List V}{us:List Value}(r:aL xs us):xs.length=us.length:=Paired.length r
theorem aL.get:∀{xs:List V}{us:List Value}{i:Nat}{x:V},aL xs us→xs[i]? =some x→∃u,us[i]? =some u∧aQ x u
 |_,_,_,_,.nil,e=>by simp at e
 |_,_,0,_,.cons r _,e=>by simp at e;subst e;exact⟨_,rfl,r⟩
 |_,_,i+1,x,.cons _ t,e=>by obtain⟨u,h1,h2⟩:=aL.get (i:=i) (x:=x) t (by simpa using e);exact⟨u,by simpa using h1,h2⟩
theorem aL.set{x:V}{u:Value}(r:aQ x u):∀{xs:List V}{us:List Value}(i:Nat),aL xs us→aL (xs.set i x) (us.set i u)
 |_,_,_,.nil=>.nil
 |_,_,0,.cons _ t=>.cons r t
 |_,_,i+1,.cons q t=>.cons q (aL.set r i t)
theorem aL.append:∀{xs ys:List V}{us ws:List Value},aL xs us→aL ys ws→aL (xs++ys) (us++ws)
 |_,_,_,_,.nil,s=>s
 |_,_,_,_,.cons r t,s=>.cons r (aL.append t s)
theorem aL.take:∀{xs:List V}{us:List Value}(n:Nat),aL xs us→aL (xs.take n) (us.take n)
 |_,_,0,_=>.nil
 |_,_,_+1,.nil=>.nil
 |_,_,n+1,.cons r t=>.cons r (aL.take n t)
theorem aL.drop:∀{xs:List V}{us:List Value}(n:Nat),aL xs us→aL (xs.drop n) (us.drop n)
 |_,_,0,r=>r
 |_,_,_+1,.nil=>.nil
 |_,_,n+1,.cons _ t=>aL.drop n t
def jX:Option V→Option Value→Prop
 |some v,some u=>aQ v u
 |none,none=>True
 |_,_=>False
def KV{κ:Type}:List (κ×V)→List (κ×Value)→Prop:=Paired fun(p:κ×V)(q:κ×Value)=>p.1=q.1∧aQ p.2 q.2
noncomputable def kV:Key→V
 |.inl i=>.int i
 |.inr x=>.str x
inductive HO where
 |lst (xs:List V)
 |tup (xs:List V)
 |dK (kvs:List (Key×V))|dT (kvs:List (List Key×V))
 |set (S:Int→Bool) (n:Nat)
 |ins (C dx:Addr) (fs:List (Str×V))
 |own (x:Addr)
 |xd (fs:List (Str×V))
 |met (f x:Addr)
 |rng (lo hi:Int)
 |Rx (o:Obj) (u:HO)
 |Xo (ps:Array Value)
 |ext (φ:Heap→Prop)
abbrev Hp:=Addr→Option HO
noncomputable def upd(H:Hp)(a:Addr)(o:HO):Hp:=fun b=>if b=a then some o else H b
theorem aA{H:Hp}{a:Addr}{o:HO}:upd H a o a=some o:=by unfold upd;rw[if_pos rfl]
theorem aj{H:Hp}{a b:Addr}{o:HO}(h:b≠a):upd H a o b=H b:=by unfold upd;rw[if_neg h]
theorem wI{H:Hp}{a:Addr}{o u:HO}:upd (upd H a o) a u=upd H a u:=by funext b;unfold upd;split<;>rfl
theorem qg{H:Hp}{a b:Addr}{o u:HO}(h:H a=some o)(h':H b=some u)(d:o≠u):a≠b:=by intro e;subst e;rw[h]at h';exact d (Option.some.inj h')
theorem ar{H:Hp}{a b:Addr}{o:HO}(h:H a=some o)(h':H b=none):a≠b:=by intro e;subst e;rw[h]at h';cases h'
section
variable(P:Program)(w:World)
def bq(H:Hp)(h:Heap)(a:Addr):HO→Prop
 |.lst xs=>xs.length≤sizeLine∧∃(its:List Value)(n:Nat),aL xs its∧h.get? a=some { cls:=.type "list",data:=.seq its.toArray n }
 |.tup xs=>xs.length≤sizeLine∧∃its:List Value,aL xs its∧IsTup h a its.toArray
 |.dK kvs=>kvs.length≤sizeLine∧(a==sysModules)=false∧∃vs,KV kvs vs∧h.DictOf (bF P w) a vs
 |.dT kvs=>kvs.length≤sizeLine∧(a==sysModules)=false∧∃xs:List (List Key×Addr×Value),
   Paired (fun(p:List Key×V)(q:List Key×Addr×Value)=>p.1=q.1∧H q.2.1=some (.tup (p.1.map kV))∧aQ p.2 q.2.2) kvs xs∧
   ∃o es ep,h.get? a=some o∧o.ExactDict∧o.data=.dict es ep∧es.toList=xs.map (entryOfKey (tupleKind (bF P w)))∧(xs.map (·.1)).Nodup
 |.set S n=>h.SetOf (intKind P w) a S n
 |.ins C dx fs=>H dx=some (.own a)∧fs.length≤1000∧dx≠a∧h.get? a=some (W.instObj C dx)∧
   ∃mA,h.Ns1 dx mA∧(∀f,jX (fs.lookup f) (mA f))∧PySem.Within mA (fs.map (·.1))
 |.own _=>∃o,h.get? a=some o
 |.xd fs=>∃mA,h.Ns1 a mA∧∀f,jX (fs.lookup f) (mA f)
 |.rng lo hi=>∃t u v,h.get? a=some { cls:=.type "range",data:=.fields #[.int lo t,.int hi u,.int 1 v] }
 |.Rx o u=>h.get? a=some o∧bq H h a u
 |.Xo ps=>h.get? a=some { cls:=.none,data:=.fields ps }
 |.met f x=>h.get? a=some (W.methodObj (.ref f) (.ref x))
 |.ext φ=>φ h∧(∃o,h.get? a=some o)∧∀h1 h2:Heap,φ h1→(∀o,h1.get? a=some o→h2.get? a=some o)→φ h2
def Ql(H:Hp)(h:Heap):Prop:=∀a o,H a=some o→bq P w H h a o
end
section
variable{P:Program}{w:World}{H H':Hp}{h h':Heap}{a:Addr}{o:HO}
theorem bq.lt(x:bq P w H h a o):a<h.objs.size:=by
 cases o with
 |lst xs=>obtain⟨_,_,_,_,e⟩:=x;exact Heap.lt_size e
 |tup xs=>obtain⟨_,_,_,p⟩:=x;exact p.lt
 |dK kvs=>obtain⟨_,_,_,_,o,_,_,e,_⟩:=x;exact Heap.lt_size e
 |dT kvs=>obtain⟨_,_,_,_,o,_,_,e,_⟩:=x;exact Heap.lt_size e
 |set S n=>obtain⟨o,_,_,_,e,_⟩:=x;exact Heap.lt_size e
 |ins C dx fs=>obtain⟨_,_,_,e,_⟩:=x;exact Heap.lt_size e
 |own y=>obtain⟨_,e⟩:=x;exact Heap.lt_size e
 |xd fs=>obtain⟨_,⟨_,_,_,e,_⟩,_⟩:=x;exact Heap.lt_size e
 |rng lo hi=>obtain⟨_,_,_,e⟩:=x;exact Heap.lt_size e
 |Rx ob u=>obtain⟨e,_⟩:=x;exact Heap.lt_size e
 |Xo ps=>exact Heap.lt_size (show h.get? a=some _ from x)
 |met f y=>exact Heap.lt_size (show h.get? a=some _ from x)
 |ext φ=>obtain⟨_,⟨_,e⟩,_⟩:=x;exact Heap.lt_size e
theorem Paired.Ye{α β:Type}{F G:α→β→Prop}:∀{l₁:List α}{l₂:List β},Paired F l₁ l₂→(∀a b,F a b→G a b)→Paired G l₁ l₂
 |_,_,.nil,_=>.nil
 |_,_,.cons r t,f=>.cons (f _ _ r) (Paired.Ye t f)
theorem bq.stay(x:bq P w H h a o)(k:∀b u,(b=a∨H b=some (.own a))→h.get? b=some u→h'.get? b=some u)
  (ho:∀b,H b=some (.own a)→H' b=some (.own a)) (ht:∀b xs,H b=some (.tup xs)→H' b=some (.tup xs)):bq P w H' h' a o:=by
 induction o with
 |lst xs=>obtain⟨z,its,n,r,e⟩:=x;exact⟨z,its,n,r,k _ _ (.inl rfl) e⟩
 |tup xs=>obtain⟨z,its,r,ob,e,c⟩:=x;exact⟨z,its,r,ob,k _ _ (.inl rfl) e,c⟩
 |dK kvs=>obtain⟨z,y,vs,r,ob,es,ep,e,c⟩:=x;exact⟨z,y,vs,r,ob,es,ep,k _ _ (.inl rfl) e,c⟩
 |dT kvs=>obtain⟨z,y,xs,r,ob,es,ep,e,c⟩:=x;exact⟨z,y,xs,Paired.Ye r fun p q z=>⟨z.1,ht _ _ z.2.1,z.2.2⟩,ob,es,ep,k _ _ (.inl rfl) e,c⟩
 |set S n=>obtain⟨ob,es,ep,t,e,c⟩:=x;exact⟨ob,es,ep,t,k _ _ (.inl rfl) e,c⟩
 |ins C dx fs=>obtain⟨d,z,ne,e,mA,⟨od,es,ep,e2,c⟩,r⟩:=x;exact⟨ho _ d,z,ne,k _ _ (.inl rfl) e,mA,⟨od,es,ep,k _ _ (.inr d) e2,c⟩,r⟩
 |own y=>obtain⟨ob,e⟩:=x;exact⟨ob,k _ _ (.inl rfl) e⟩
 |xd fs=>obtain⟨mA,⟨od,es,ep,e,c⟩,r⟩:=x;exact⟨mA,⟨od,es,ep,k _ _ (.inl rfl) e,c⟩,r⟩
 |rng lo hi=>obtain⟨t,u,v,e⟩:=x;exact⟨t,u,v,k _ _ (.inl rfl) e⟩
 |Rx ob u ih=>obtain⟨e,q⟩:=x;exact⟨k _ _ (.inl rfl) e,ih q⟩
 |Xo ps=>have e:h.get? a=some { cls:=.none,data:=.fields ps }:=x;show h'.get? a=some { cls:=.none,data:=.fields ps };exact k a _ (.inl rfl) e
 |met f y=>have e:h.get? a=some (W.methodObj (.ref f) (.ref y)):=x;show h'.get? a=some (W.methodObj (.ref f) (.ref y));exact k a _ (.inl rfl) e
 |ext φ=>obtain⟨p,⟨o,e⟩,st⟩:=x;exact⟨st _ _ p fun o q=>k _ _ (.inl rfl) q,⟨o,k _ _ (.inl rfl) e⟩,st⟩
theorem Ql.lt(x:Ql P w H h)(e:H a=some o):a<h.objs.size:=(x a o e).lt
theorem Ql.fresh(x:Ql P w H h)(e:h.objs.size≤a):H a=none:=by
 cases q:H a with
 |none=>rfl
 |some u=>exact absurd (Nat.lt_of_lt_of_le (x.lt q) e) (Nat.lt_irrefl _)
theorem Ql.kept(x:Ql P w H h)(k:∀b u,h.get? b=some u→h'.get? b=some u):Ql P w H h':=fun a o e=>(x a o e).stay (fun b u _ q=>k b u q) (fun _ q=>q) fun _ _ q=>q
theorem Ql.laid(x:Ql P w H h)(k:∀b u,h.get? b=some u→h'.get? b=some u)(hp:h.objs.size≤a)(new:bq P w (upd H a o) h' a o):Ql P w (upd H a o) h':=fun b u e=>by
 have hn:=x.fresh hp
 by_cases hb:b=a
 ·subst hb;rw[aA]at e;cases e;exact new
 ·rw[aj hb]at e;exact(x b u e).stay (fun c v _ q=>k c v q) (fun c q=>by rw[aj (ar q hn)];exact q) fun c xs q=>by rw[aj (ar q hn)];exact q
end
def Rd(H:Hp)(a:Addr)(u:HO):Prop:=H a=some u∨∃o,H a=some (.Rx o u)
theorem Rd.ok{P:Program}{w:World}{H:Hp}{h:Heap}{a:Addr}{u:HO}(r:Rd H a u)(x:Ql P w H h):bq P w H h a u:=by
 rcases r with r|⟨o,r⟩
 ·exact x a u r
 ·obtain⟨_,q⟩:=x a _ r;exact q
def Mut:Option HO→Prop
 |some (.lst _)=>True
 |some (.dK _)=>True
 |some (.dT _)=>True
 |some (.set _ _)=>True
 |some (.ins _ _ _)=>True
 |some (.ext _)=>True
 |_=>False
section
variable{P:Program}{w:World}{H:Hp}{h h':Heap}{x e:Addr}{o':HO}
theorem Ql.write(ok:Ql P w H h)(mu:Mut (H x))(he:e=x∨H e=some (.own x))(k:∀b u,b≠e→h.get? b=some u→h'.get? b=some u)(YK:∃u,h'.get? e=some u)
  (new:bq P w (upd H x o') h' x o'):Ql P w (upd H x o') h':=fun b u q=>by
 have Zm:∀c y,H c=some (.own y)→c≠x:=fun c y r z=>by subst z;rw[r]at mu;exact mu
 have aa0:∀c xs,H c=some (.tup xs)→c≠x:=fun c xs r z=>by subst z;rw[r]at mu;exact mu
 by_cases hb:b=x
 ·subst hb;rw[aA]at q;cases q;exact new
 ·rw[aj hb]at q
  by_cases hbe:b=e
  ·have q':H b=some (.own x):=by
    rcases he with z|z
    ·exact absurd (hbe.trans z) hb
    ·rw[hbe];exact z
   rw[q]at q';cases q';obtain⟨v,hv⟩:=YK;exact⟨v,by rw[hbe];exact hv⟩
  ·refine(ok b u q).stay (fun c v hc r=>k c v ?_ r) (fun c r=>by rw[aj (Zm c b r)];exact r) fun c xs r=>by rw[aj (aa0 c xs r)];exact r
   rcases hc with rfl|hc
   ·exact hbe
   ·rintro rfl
    rcases he with z|z
    ·exact Zm c b hc z
    ·rw[hc]at z;cases z;exact hb rfl
end
structure Un(fs ex:List Addr)(H H':Hp)(h h':Heap):Prop where
 keep:∀b o,h.get? b=some o→H b=none→b∉fs→b∉ex→h'.get? b=some o
 slot:∀b o,h.get? b=some o→H b=none→b∈fs→b∉ex→∃sl,h'.get? b=some { o with slots:=sl }
 free:∀b o,h.get? b=some o→H b=none→b∉ex→H' b=none
 there:∀b o,h.get? b=some o→b∉ex→∃o',h'.get? b=some o'
 tups:∀b xs,H b=some (.tup xs)→H' b=some (.tup xs)
 M7:∀b o u,H b=some (.Rx o u)→H' b=some (.Rx o u)
 Ry:∀b ps,H b=some (.Xo ps)→∃more,H' b=some (.Xo (ps++more))
section
variable{fs fs' ex ex':List Addr}{H H1 H2:Hp}{h h1 h2 h':Heap}{a x e:Addr}{o:HO}
theorem Un.any(u:Un fs ex H H1 h h1){b:Addr}{ob:Obj}(q:h.get? b=some ob)(n:H b=none)(hx:b∉ex):∃sl,h1.get? b=some { ob with slots:=sl }:=by
 by_cases hb:b∈fs
 ·exact u.slot b ob q n hb hx
 ·exact⟨ob.slots,u.keep b ob q n hb hx⟩
theorem Un.kept(k:∀b u,h.get? b=some u→h'.get? b=some u):Un fs ex H H h h':=
 ⟨fun b ob q _ _ _=>k b ob q,fun b ob q _ _ _=>⟨ob.slots,k b ob q⟩,fun _ _ _ n _=>n,fun b ob q _=>⟨ob,k b ob q⟩,fun _ _ q=>q,fun _ _ _ q=>q,fun _ ps q=>⟨#[],by rw[q];simp⟩⟩
theorem Un.refl:Un fs ex H H h h:=Un.kept fun _ _ q=>q
theorem Un.laid(k:∀b u,h.get? b=some u→h'.get? b=some u)(hp:h.objs.size≤a)(hn:H a=none):Un fs ex H (upd H a o) h h' where
 keep:=fun b u q _ _ _=>k b u q
 slot:=fun b u q _ _ _=>⟨u.slots,k b u q⟩
 free:=fun b u q n _=>by rw[aj (Nat.ne_of_lt (Nat.lt_of_lt_of_le (Heap.lt_size q) hp))];exact n
 there:=fun b u q _=>⟨u,k b u q⟩
 tups:=fun b xs q=>by rw[aj (ar q hn)];exact q
 M7:=fun b u xs q=>by rw[aj (ar q hn)];exact q
 Ry:=fun b ps q=>⟨#[],by rw[aj (ar q hn),q];simp⟩
theorem Un.write(mu:Mut (H x))(he:e=x∨H e=some (.own x))(k:∀b u,b≠e→h.get? b=some u→h'.get? b=some u)(YK:∃u,h'.get? e=some u):Un fs ex H (upd H x o) h h':=by
 have hx:∀b,H b=none→b≠x:=fun b n z=>by subst z;rw[n]at mu;exact mu
 have hb:∀b,H b=none→b≠e:=fun b n z=>by
  subst z;rcases he with r|r
  ·exact hx b n r
  ·rw[n]at r;cases r
 have hm:∀b u,H b=some u→¬ Mut (some u)→b≠x:=fun b u q nm z=>by subst z;rw[q]at mu;exact nm mu
 refine⟨fun b u q n _ _=>k b u (hb b n) q,fun b u q n _ _=>⟨u.slots,k b u (hb b n) q⟩,fun b u q n _=>by rw[aj (hx b n)];exact n,fun b u q _=>?_,
  fun b xs q=>by rw[aj (hm b _ q fun z=>z)];exact q,fun b u xs q=>by rw[aj (hm b _ q fun z=>z)];exact q,fun b ps q=>⟨#[],by rw[aj (hm b _ q fun z=>z),q];simp⟩⟩
 by_cases hbe:b=e
 ·subst hbe;exact YK
 ·exact⟨u,k b u hbe q⟩
end
noncomputable def trk(h:Heap)(H:Hp):List Addr:=(List.range h.objs.size).filter fun a=>(H a).isSome
def sd(h:Heap)(H:Hp):Heap:=W.hideAll h (trk h H)
theorem yV(h:Heap)(H:Hp):(sd h H).objs.size=h.objs.size:=W.hideAll_size _ _
theorem By{h:Heap}{H:Hp}{b:Addr}{o:Obj}(e:h.get? b=some o)(n:H b=none):(sd h H).get? b=some o:=
 W.hideAll_get _ e fun hm=>by have q:(H b).isSome=true:=(List.mem_filter.mp hm).2;rw[n]at q;simp at q
theorem DV{h:Heap}{H:Hp}{b:Addr}{o:Obj}(e:(sd h H).get? b=some o):h.get? b=some o∧H b=none:=by
 have e':h.get? b=some o:=W.of_hideAll (trk h H) e;refine⟨e',?_⟩
 cases q:H b with
 |none=>rfl
 |some x=>have hm:b∈trk h H:=List.mem_filter.mpr ⟨List.mem_range.mpr (Heap.lt_size e'),by simp[q]⟩;have z:(sd h H).get? b=none:=W.hideAll_none (trk h H) hm;rw[z]at e;cases e
structure Mod(K:W.Frag)(mg:Str→Option Value)(base:Heap):Prop where
 Sd:K.In base
 glob:base.Ns mainGlobals mg
 blt:∃mb,base.Ns builtinsNs mb∧∀x:Str,x≠"__name__"→mb x=bootBuiltins x
 nolimit:base.NoLimit
structure Cx where
 prog:Program
 w:World
 K:W.Frag
 mg:Str→Option Value
 base:Heap
 A:Around
 N:List Str
 s₀:Shared
 H₀:Hp
 env:Env
 outer:List Env
 stack:List Env
 ex:List Addr
 fn:Str→Bool
 calm:Bool
 pn:List (Addr×Obj)
 xe:Value→Shared→Prop
noncomputable def frs(l:List Env):List Addr:=l.filterMap (·.frame)
abbrev Cx.fs(X:Cx):List Addr:=frs X.outer
def Vis(sc:Scope)(x:Str):Prop:=sc.names.lookup x=some .local∨sc.names.lookup x=some .cell∨sc.names.lookup x=some .free
def Loc(sc:Scope)(x:Str):Prop:=sc.names.lookup x=some .local∨sc.names.lookup x=some .cell
def NY(env:Env)(h:Heap)(m:Str→Option Value)(x:Str)(u:Value):Prop:=
 (env.kindOf x=some .local∧m x=some u)∨((env.kindOf x=some .cell∨env.kindOf x=some .free)∧∃c,env.cells.lookup x=some c∧h.IsCell c (some u))
structure Cx.Ok(X:Cx):Prop where
 mod:Mod X.K X.mg X.base
 kind:X.env.scope.kind=.function
 glob:X.env.globals=mainGlobals
 blt:X.env.builtins=builtinsNs
 above:X.s₀.heap.objs.size≤X.env.locals
 inj:∀x y c,X.env.cells.lookup x=some c→X.env.cells.lookup y=some c→x=y
 has:∀x,(X.env.kindOf x=some .cell∨X.env.kindOf x=some .free)→∃c,X.env.cells.lookup x=some c
 cab:∀x c,X.fn x=true→X.env.cells.lookup x=some c→X.s₀.heap.objs.size≤c
 hd:X.calm=true→X.A.handled=none
 frames:X.A.frames=some X.stack
 stk:X.stack=X.outer∨(X.stack=X.env::X.outer∧X.env.frame=some X.env.locals)
 YS:∀b∈X.ex,b≠X.env.locals∧∀x c,X.env.cells.lookup x=some c→c≠b
 bs:∀b o,X.base.get? b=some o→X.s₀.heap.get? b=some o∧X.H₀ b=none
 Vz:X.base.objs.size≤X.s₀.heap.objs.size
 TY:∀b o,X.base.get? b=some o→b∉X.ex
 UG:∀b∈X.ex,b∉X.fs
 QJ:X.s₀.heap.FunFrames X.base X.outer
 V8:∀b∈X.fs,X.H₀ b=none
structure Inv(X:Cx)(pins:List (Addr×Obj))(σ:List (Option V))(H:Hp)(s:Shared):Prop where
 ok:X.Ok
 os:s.os=X.s₀.os
 bare:AllBare s.gens
 base:Un X.fs X.ex X.H₀ H X.s₀.heap s.heap
 loc:∃m,s.heap.Ns X.env.locals m∧∀(i:Nat)(x:Str)(v:V),X.N[i]? =some x→σ[i]? =some (some v)→Vis X.env.scope x→∃u,aQ v u∧NY X.env s.heap m x u
 cell:∀x c,X.env.cells.lookup x=some c→∃v,s.heap.IsCell c v
 free:H X.env.locals=none
 Oz:∀x c,X.env.cells.lookup x=some c→H c=none
 pin:∀p∈X.pn++pins,s.heap.get? p.1=some p.2∧H p.1=none∧p.1≠X.env.locals∧p.1∉X.fs∧∀v,p.2.data≠.cell v
 hok:Ql X.prog X.w H s.heap
 len:σ.length=X.N.length
section
variable{X:Cx}{pins:List (Addr×Obj)}{σ:List (Option V)}{H H':Hp}{s:Shared}{h':Heap}
theorem Cx.Ok.aa1(ok:X.Ok){b:Addr}{o:Obj}(e:X.base.get? b=some o):b∉X.fs:=fun hb=>by have:=(ok.QJ.mem hb).1;rw[e]at this;cases this
theorem Inv.bs(I:Inv X pins σ H s):∀b o,X.base.get? b=some o→s.heap.get? b=some o∧H b=none:=fun b o e=>⟨I.base.keep b o (I.ok.bs b o e).1 (I.ok.bs b o e).2 (I.ok.aa1 e) (I.ok.TY b o e),I.base.free b o (I.ok.bs b o e).1 (I.ok.bs b o e).2 (I.ok.TY b o e)⟩
theorem Inv.bk(I:Inv X pins σ H s):∀b o,X.base.get? b=some o→s.heap.get? b=some o:=fun b o e=>(I.bs b o e).1
theorem Inv.mod(I:Inv X pins σ H s):Mod X.K X.mg X.base:=I.ok.mod
theorem Inv.Qj(I:Inv X pins σ H s):X.K.In s.heap:=I.ok.mod.Sd.keeps I.bk
theorem Inv.lt(I:Inv X pins σ H s):X.env.locals<s.heap.objs.size:=let⟨_,hn,_⟩:=I.loc;hn.lt
theorem Inv.sz(I:Inv X pins σ H s):X.s₀.heap.objs.size≤s.heap.objs.size:=Nat.le_trans I.ok.above (Nat.le_of_lt I.lt)
theorem Inv.Zo(I:Inv X pins σ H s){a:Addr}(h:s.heap.objs.size≤a):a∉X.fs:=fun hb=>by obtain⟨_,o,ho,_⟩:=I.ok.QJ.mem hb;exact absurd (Nat.lt_of_lt_of_le (Heap.lt_size ho) (Nat.le_trans I.sz h)) (Nat.lt_irrefl _)
theorem Inv.XC(I:Inv X pins σ H s):∀x c,X.env.cells.lookup x=some c→c≠X.env.locals:=fun x c e z=>by obtain⟨v,o,ho,hd⟩:=I.cell x c e;obtain⟨m,⟨o',es,ep,T6,hd',_⟩,_⟩:=I.loc;rw[z,T6]at ho;cases ho;rw[hd']at hd;cases hd
theorem Inv.QJ(I:Inv X pins σ H s):s.heap.FunFrames X.base X.outer:=by
 have all:∀(l:List Env),(∀b∈frs l,b∈X.fs)→X.s₀.heap.FunFrames X.base l→s.heap.FunFrames X.base l:=by
  intro l
  induction l with
  |nil=>intro _ _;trivial
  |cons env r ih=>intro hs hl;obtain⟨hk,⟨L,o,hf,hn,ho,hd⟩,hr⟩:=hl;have hL:L∈X.fs:=hs L (by unfold frs;rw[List.filterMap_cons,hf];exact List.mem_cons_self);obtain⟨sl,e⟩:=I.base.slot L o ho (I.ok.V8 L hL) hL fun z=>I.ok.UG L z hL;exact⟨hk,⟨L,_,hf,hn,e,hd⟩,ih (fun b hb=>hs b (by unfold frs;rw[List.filterMap_cons,hf];exact List.mem_cons_of_mem _ hb)) hr⟩
 exact all X.outer (fun _ hb=>hb) I.ok.QJ
theorem Inv.stack(I:Inv X pins σ H s):s.heap.FunFrames X.base X.stack:=by
 rcases I.ok.stk with e|⟨e,hf⟩
 ·rw[e];exact I.QJ
 ·rw[e];obtain⟨m,hn,_⟩:=I.loc;refine .cons (by rw[I.ok.kind];decide) hf hn ?_ I.QJ;exact Heap.get?_none_of_le (Nat.le_trans I.ok.Vz I.ok.above)
theorem Inv.SJ(I:Inv X pins σ H s):∀b∈frs X.stack,b∈X.env.locals::X.fs:=fun b hb=>by
 rcases I.ok.stk with e|⟨e,hf⟩
 ·rw[e]at hb;exact List.mem_cons_of_mem _ hb
 ·rw[e]at hb;unfold frs at hb;rw[List.filterMap_cons,hf]at hb;exact hb
theorem Inv.Ro(I:Inv X pins σ H s):∀b∈frs X.stack,H b=none:=fun b hb=>by
 rcases List.mem_cons.mp (I.SJ b hb)with e|hb
 ·rw[e];exact I.free
 ·obtain⟨_,o,ho,_⟩:=I.ok.QJ.mem hb;exact I.base.free b o ho (I.ok.V8 b hb) fun z=>I.ok.UG b z hb
theorem Inv.step{g':Array GenState}{t':Nat}{d':Drawn}{ch:List Addr}(I:Inv X pins σ H s)
  (W0:∀b∈ch,(b∈X.ex∨X.s₀.heap.objs.size≤b)∧b≠X.env.locals∧(∀x c,X.env.cells.lookup x=some c→c≠b)∧∀p∈X.pn++pins,p.1≠b)
  (keep:∀b o,b≠X.env.locals→b∉X.fs→b∉ch→s.heap.get? b=some o→H b=none→h'.get? b=some o)
  (slot:∀b o,b≠X.env.locals→b∈X.fs→b∉ch→s.heap.get? b=some o→H b=none→∃sl,h'.get? b=some { o with slots:=sl }) (free:∀b o,b∉ch→s.heap.get? b=some o→H b=none→H' b=none)
  (there:∀b o,b∉ch→s.heap.get? b=some o→∃o',h'.get? b=some o')
  (tups:∀b xs,H b=some (.tup xs)→H' b=some (.tup xs)) (M7:∀b o u,H b=some (.Rx o u)→H' b=some (.Rx o u)) (Ry:∀b ps,H b=some (.Xo ps)→∃more,H' b=some (.Xo (ps++more)))
  (ns:∀m,s.heap.Ns X.env.locals m→h'.Ns X.env.locals m) (hok:Ql X.prog X.w H' h') (hg:AllBare g'):
  Inv X pins σ H' { s with heap:=h',gens:=g',drawn:=d',toks:=t' }:=by
 have Yb:∀b o,X.s₀.heap.get? b=some o→b≠X.env.locals:=fun b o e=>Nat.ne_of_lt (Nat.lt_of_lt_of_le (Heap.lt_size e) I.ok.above)
 have neC:∀b o,X.s₀.heap.get? b=some o→b∉X.ex→b∉ch:=fun b o e hx hb=>by
  rcases(W0 b hb).1 with z|z
  ·exact hx z
  ·exact absurd (Nat.lt_of_lt_of_le (Heap.lt_size e) z) (Nat.lt_irrefl _)
 have cellK:∀x c,X.env.cells.lookup x=some c→∀v,s.heap.IsCell c v→h'.IsCell c v:=fun x c e v ⟨o,ho,hd⟩=>by
  have Zr:c∉ch:=fun z=>(W0 c z).2.2.1 x c e rfl
  by_cases hc:c∈X.fs
  ·obtain⟨sl,q⟩:=slot c o (I.XC x c e) hc Zr ho (I.Oz x c e);exact⟨_,q,hd⟩
  ·exact⟨o,keep c o (I.XC x c e) hc Zr ho (I.Oz x c e),hd⟩
 refine⟨I.ok,I.os,hg,⟨fun b o e n hb hx=>?_,fun b o e n hb hx=>?_,fun b o e n hx=>?_,fun b o e hx=>?_,fun b xs e=>tups b xs (I.base.tups b xs e),fun b o xs e=>M7 b o xs (I.base.M7 b o xs e),fun b ps e=>?_⟩,?_,fun x c e=>?_,?_,fun x c e=>?_,fun p hp=>?_,hok,I.len⟩
 ·exact keep b o (Yb b o e) hb (neC b o e hx) (I.base.keep b o e n hb hx) (I.base.free b o e n hx)
 ·obtain⟨sl,e1⟩:=I.base.slot b o e n hb hx;obtain⟨Wb,e2⟩:=slot b _ (Yb b o e) hb (neC b o e hx) e1 (I.base.free b o e n hx);exact⟨Wb,e2⟩
 ·obtain⟨o',e1⟩:=I.base.there b o e hx;exact free b o' (neC b o e hx) e1 (I.base.free b o e n hx)
 ·obtain⟨o',e1⟩:=I.base.there b o e hx;exact there b o' (neC b o e hx) e1
 ·obtain⟨m1,e1⟩:=I.base.Ry b ps e;obtain⟨m2,e2⟩:=Ry b _ e1;exact⟨m1++m2,by rw[e2,Array.append_assoc]⟩
 ·obtain⟨m,hn,hl⟩:=I.loc;refine⟨m,ns m hn,fun i x v e1 e2 e3=>?_⟩;obtain⟨u,r,l⟩:=hl i x v e1 e2 e3;refine⟨u,r,?_⟩;rcases l with l|⟨k,c,e,z⟩
  ·exact .inl l
  ·exact .inr ⟨k,c,e,cellK x c e _ z⟩
 ·obtain⟨v,z⟩:=I.cell x c e;exact⟨v,cellK x c e v z⟩
 ·obtain⟨m,⟨o,_,_,ho,_⟩,_⟩:=I.loc;exact free _ o (fun z=>(W0 _ z).2.1 rfl) ho I.free
 ·obtain⟨v,o,ho,hd⟩:=I.cell x c e;exact free c o (fun z=>(W0 c z).2.2.1 x c e rfl) ho (I.Oz x c e)
 ·obtain⟨e,n,ne,nf,d⟩:=I.pin p hp;have Zr:p.1∉ch:=fun z=>(W0 p.1 z).2.2.2 p hp rfl;exact⟨keep p.1 p.2 ne nf Zr e n,free p.1 p.2 Zr e n,ne,nf,d⟩
theorem Inv.un{t':Nat}(I:Inv X pins σ H s)(u:Un X.fs [] H H' s.heap h')(hok:Ql X.prog X.w H' h'):Inv X pins σ H' { s with heap:=h',toks:=t' }:=by
 obtain⟨m,⟨o,es,ep,ho,r⟩,_⟩:=id I.loc;obtain⟨sl,hL⟩:=u.any ho I.free (by simp)
 exact I.step (g':=s.gens) (d':=s.drawn) (ch:=[]) (fun _ z=>nomatch z) (fun b o _ hb _ e n=>u.keep b o e n hb (by simp)) (fun b o _ hb _ e n=>u.slot b o e n hb (by simp)) (fun b o _ e n=>u.free b o e n (by simp)) (fun b o _ e=>u.there b o e (by simp)) u.tups u.M7 u.Ry (fun m' hm=>by obtain⟨o',YW,ep',T6,r'⟩:=hm;rw[ho]at T6;cases T6;exact⟨_,YW,ep',hL,r'⟩) hok I.bare
theorem Inv.call{g':Array GenState}{t':Nat}{d':Drawn}{ch:List Addr}(I:Inv X pins σ H s)(u:Un (frs X.stack) ch H H' s.heap h')(hok:Ql X.prog X.w H' h')(hg:AllBare g')
  (W0:∀b∈ch,(b∈X.ex∨X.s₀.heap.objs.size≤b)∧b≠X.env.locals∧(∀x c,X.env.cells.lookup x=some c→c≠b)∧∀p∈X.pn++pins,p.1≠b):
  Inv X pins σ H' { s with heap:=h',gens:=g',drawn:=d',toks:=t' }:=by
 obtain⟨m,⟨o,es,ep,ho,r⟩,_⟩:=id I.loc;obtain⟨sl,hL⟩:=u.any ho I.free fun z=>(W0 _ z).2.1 rfl
 exact I.step (ch:=ch) W0 (fun b o hL hb hc e n=>u.keep b o e n (fun z=>(List.mem_cons.mp (I.SJ b z)).elim hL hb) hc) (fun b o _ _ hc e n=>u.any e n hc) (fun b o hc e n=>u.free b o e n hc) (fun b o hc e=>u.there b o e hc) u.tups u.M7 u.Ry (fun m' hm=>by obtain⟨o',YW,ep',T6,r'⟩:=hm;rw[ho]at T6;cases T6;exact⟨_,YW,ep',hL,r'⟩) hok hg
theorem Inv.turned{t':Nat}{it:Addr}(I:Inv X pins σ H s)(k:∀b o,b≠it→s.heap.get? b=some o→h'.get? b=some o)(hn:H it=none)(hL:it≠X.env.locals)
  (h1:it∈X.ex∨X.s₀.heap.objs.size≤it) (h2:∀x c,X.env.cells.lookup x=some c→c≠it) (h3:∀p∈X.pn++pins,p.1≠it):Inv X pins σ H { s with heap:=h',toks:=t' }:=by
 have nit:∀b u,H b=some u→b≠it:=fun b u e z=>by rw[z,hn]at e;cases e
 refine I.step (g':=s.gens) (d':=s.drawn) (ch:=[it]) (fun b hb=>?_) (fun b o _ _ hc e _=>k b o (fun z=>hc (by simp[z])) e) (fun b o _ _ hc e _=>⟨o.slots,k b o (fun z=>hc (by simp[z])) e⟩) (fun _ _ _ _ n=>n)
  (fun b o hc e=>⟨o,k b o (fun z=>hc (by simp[z])) e⟩) (fun _ _ e=>e) (fun _ _ _ e=>e) (fun b ps e=>⟨#[],by rw[e];simp⟩) (fun m hm=>?_) (fun b u e=>?_) I.bare
 ·have e:b=it:=by simpa using hb
  subst e;exact⟨h1,hL,h2,h3⟩
 ·obtain⟨o,es,ep,ho,r⟩:=hm;exact⟨o,es,ep,k _ o (Ne.symm hL) ho,r⟩
 ·refine(I.hok b u e).stay (fun c v hc q=>k c v ?_ q) (fun _ q=>q) fun _ _ q=>q;rcases hc with z|z
  ·rw[z];exact nit b u e
  ·exact nit c _ z
theorem Inv.tok(I:Inv X pins σ H s)(t:Nat):Inv X pins σ H { s with toks:=t }:=I.un (h':=s.heap) (t':=t) Un.refl I.hok
theorem Inv.kept{t':Nat}(I:Inv X pins σ H s)(k:∀b u,s.heap.get? b=some u→h'.get? b=some u):Inv X pins σ H { s with heap:=h',toks:=t' }:=I.un (Un.kept k) (I.hok.kept k)
theorem Inv.laid{a:Addr}{o:HO}{t':Nat}(I:Inv X pins σ H s)(k:∀b u,s.heap.get? b=some u→h'.get? b=some u)(hp:s.heap.objs.size≤a)(new:bq X.prog X.w (upd H a o) h' a o):
  Inv X pins σ (upd H a o) { s with heap:=h',toks:=t' }:=I.un (Un.laid k hp (I.hok.fresh hp)) (I.hok.laid k hp new)
theorem Inv.write{x e:Addr}{o:HO}{t':Nat}(I:Inv X pins σ H s)(mu:Mut (H x))(he:e=x∨H e=some (.own x))(k:∀b u,b≠e→s.heap.get? b=some u→h'.get? b=some u)(YK:∃u,h'.get? e=some u)
  (new:bq X.prog X.w (upd H x o) h' x o):Inv X pins σ (upd H x o) { s with heap:=h',toks:=t' }:=I.un (Un.write mu he k YK) (I.hok.write mu he k YK new)
theorem Inv.weak{σ':List (Option V)}(I:Inv X pins σ H s)(hl:σ'.length=σ.length)(w:∀(i:Nat) v,σ'[i]? =some (some v)→σ[i]? =some (some v)):Inv X pins σ' H s:=
 ⟨I.ok,I.os,I.bare,I.base,let⟨m,hn,ZF⟩:=I.loc;⟨m,hn,fun i x v e1 e2 e3=>ZF i x v e1 (w i v e2) e3⟩,I.cell,I.free,I.Oz,I.pin,I.hok,hl.trans I.len⟩
theorem Inv.Oi{K9:List (Addr×Obj)}(I:Inv X pins σ H s)(h:∀p∈K9,s.heap.get? p.1=some p.2∧H p.1=none∧p.1≠X.env.locals∧p.1∉X.fs∧∀v,p.2.data≠.cell v):Inv X K9 σ H s:=
 ⟨I.ok,I.os,I.bare,I.base,I.loc,I.cell,I.free,I.Oz,fun p hp=>(List.mem_append.mp hp).elim (fun z=>I.pin p (List.mem_append_left _ z)) (h p),I.hok,I.len⟩
theorem uc{N:List Str}(hN:N.Nodup){i j:Nat}{x:Str}(a:N[i]? =some x)(b:N[j]? =some x):i=j:=by obtain⟨h1,e1⟩:=List.getElem?_eq_some_iff.mp a;obtain⟨h2,e2⟩:=List.getElem?_eq_some_iff.mp b;exact(List.getElem_inj hN).mp (e1.trans e2.symm)
theorem xO{M:Model}{A:Around}{E:Value→Shared→Prop}{i:Nat}{x:Str}{v:V}{u:Value}{Q:Unit→Shared→Prop}(I:Inv X pins σ H s)(hN:X.N.Nodup)(hi:X.N[i]? =some x)(hx:Loc X.env.scope x)(r:aQ v u)
  (h:∀s',Inv X pins (σ.set i (some v)) H s'→(∃a,Heap.SameBut a s.heap s'.heap∧(a=X.env.locals∨X.env.cells.lookup x=some a))→Q () s') (hf:X.fn x=true∨X.env.scope.names.lookup x=some .local:=by first|exact .inl rfl|exact .inr rfl|assumption):wpAny M A (storeName X.env x u) Q E s:=by
 obtain⟨m,hn,hl⟩:=id I.loc;have abL:(X.env.scope.kind==.class||(X.env.scope.kind==.module&&X.env.locals !=X.env.globals))=false:=by rw[I.ok.kind];rfl
 have hiσ:i<σ.length:=by rw[I.len];exact(List.getElem?_eq_some_iff.mp hi).1
 have XC:=I.XC
 have tracked:∀{a:Addr}{h':Heap},(∃o,s.heap.get? a=some o∧H a=none)→Heap.SameBut a s.heap h'→Ql X.prog X.w H h':=fun{a h'} ha hs b ob e=>by
  obtain⟨_,_,Xy⟩:=ha;refine(I.hok b ob e).stay (fun c w' hc q=>(hs.2 c ?_).trans q) (fun _ q=>q) fun _ _ q=>q
  rintro rfl
  rcases hc with rfl|hc
  ·rw[Xy]at e;cases e
  ·rw[Xy]at hc;cases hc
 rcases hx with hk|hk
 ·refine wpAny_storeName_local hk hn (fun h' hn' hs=>?_) abL;obtain⟨oL,_,_,hoL,_⟩:=id hn;refine h _ ⟨I.ok,I.os,I.bare,⟨fun b o e n hb hx=>?_,fun b o e n hb hx=>?_,I.base.free,fun b o e hx=>?_,I.base.tups,I.base.M7,I.base.Ry⟩,⟨_,hn',fun j y v' e1 e2 e3=>?_⟩,fun y c e=>?_,I.free,I.Oz,fun p hp=>?_,tracked ⟨oL,hoL,I.free⟩ hs,by simpa using I.len⟩ ⟨_,hs,.inl rfl⟩
  ·exact(hs.2 b (Nat.ne_of_lt (Nat.lt_of_lt_of_le (Heap.lt_size e) I.ok.above))).trans (I.base.keep b o e n hb hx)
  ·obtain⟨sl,e1⟩:=I.base.slot b o e n hb hx;exact⟨sl,(hs.2 b (Nat.ne_of_lt (Nat.lt_of_lt_of_le (Heap.lt_size e) I.ok.above))).trans e1⟩
  ·obtain⟨o',e1⟩:=I.base.there b o e hx;exact⟨o',(hs.2 b (Nat.ne_of_lt (Nat.lt_of_lt_of_le (Heap.lt_size e) I.ok.above))).trans e1⟩
  ·by_cases hj:j=i
   ·subst hj;rw[hi]at e1;cases e1;rw[List.getElem?_set_self hiσ]at e2
    cases e2
    exact⟨u,r,.inl ⟨hk,by simp⟩⟩
   ·rw[List.getElem?_set_ne (Ne.symm hj)]at e2;obtain⟨u',r',q⟩:=hl j y v' e1 e2 e3;refine⟨u',r',?_⟩;rcases q with⟨k,e⟩|⟨k,c,e,z⟩
    ·refine .inl ⟨k,?_⟩;have:y≠x:=fun e=>hj (uc hN e1 (e▸hi));simp[this,e]
    ·exact .inr ⟨k,c,e,z.sameBut hs (XC y c e)⟩
  ·obtain⟨w',z⟩:=I.cell y c e;exact⟨w',z.sameBut hs (XC y c e)⟩
  ·obtain⟨e,n,ne,nf,d⟩:=I.pin p hp;exact⟨(hs.2 p.1 ne).trans e,n,ne,nf,d⟩
 ·have Ri:X.fn x=true:=by
   rcases hf with z|z
   ·exact z
   ·rw[z]at hk;cases hk
  obtain⟨c,hc⟩:=I.ok.has x (.inl hk);obtain⟨w',z⟩:=I.cell x c hc;refine wpAny_storeName_cell I.ok.kind hk hc z (fun h' Yn hs=>?_);obtain⟨oc,hoc,abv⟩:=id z;refine h { s with heap:=h' } ⟨I.ok,I.os,I.bare,⟨fun b o e n hb hx=>?_,fun b o e n hb hx=>?_,I.base.free,fun b o e hx=>?_,I.base.tups,I.base.M7,I.base.Ry⟩,⟨m,hn.sameBut hs (Ne.symm (XC x c hc)),fun j y v' e1 e2 e3=>?_⟩,fun y c' e=>?_,I.free,I.Oz,fun p hp=>?_,tracked ⟨oc,hoc,I.Oz x c hc⟩ hs,by simpa using I.len⟩ ⟨c,hs,.inr hc⟩
  ·exact(hs.2 b (Nat.ne_of_lt (Nat.lt_of_lt_of_le (Heap.lt_size e) (I.ok.cab x c Ri hc)))).trans (I.base.keep b o e n hb hx)
  ·obtain⟨sl,e1⟩:=I.base.slot b o e n hb hx;exact⟨sl,(hs.2 b (Nat.ne_of_lt (Nat.lt_of_lt_of_le (Heap.lt_size e) (I.ok.cab x c Ri hc)))).trans e1⟩
  ·obtain⟨o',e1⟩:=I.base.there b o e hx;exact⟨o',(hs.2 b (Nat.ne_of_lt (Nat.lt_of_lt_of_le (Heap.lt_size e) (I.ok.cab x c Ri hc)))).trans e1⟩
  ·by_cases hj:j=i
   ·subst hj;rw[hi]at e1;cases e1;rw[List.getElem?_set_self hiσ]at e2
    cases e2
    exact⟨u,r,.inr ⟨.inl hk,c,hc,Yn⟩⟩
   ·rw[List.getElem?_set_ne (Ne.symm hj)]at e2;obtain⟨u',r',q⟩:=hl j y v' e1 e2 e3;refine⟨u',r',?_⟩;rcases q with q|⟨k,c',e,z'⟩
    ·exact .inl q
    ·refine .inr ⟨k,c',e,z'.sameBut hs ?_⟩
     rintro rfl
     exact hj (uc hN e1 (I.ok.inj _ _ _ e hc▸hi))
  ·by_cases hcc:c'=c
   ·subst hcc;exact⟨_,Yn⟩
   ·obtain⟨w2,z2⟩:=I.cell y c' e;exact⟨w2,z2.sameBut hs hcc⟩
  ·obtain⟨e,n,ne,nf,d⟩:=I.pin p hp;refine⟨(hs.2 p.1 ?_).trans e,n,ne,nf,d⟩;intro q;rw[q,hoc]at e;have q':oc=p.2:=Option.some.inj e;exact d w' (by rw[← q'];exact abv)
theorem nQ{M:Model}{A:Around}{E:Value→Shared→Prop}{i:Nat}{x:Str}{v:V}{u:Value}{Q:Unit→Shared→Prop}(I:Inv X pins σ H s)(hN:X.N.Nodup)(hi:X.N[i]? =some x)(hx:Loc X.env.scope x)(r:aQ v u)
  (h:∀s',Inv X pins (σ.set i (some v)) H s'→Q () s') (hf:X.fn x=true∨X.env.scope.names.lookup x=some .local:=by first|exact .inl rfl|exact .inr rfl|assumption):wpAny M A (storeName X.env x u) Q E s:=
 xO I hN hi hx r (fun s' I' _=>h s' I') hf
theorem Inv.call'{s':Shared}{ch:List Addr}(I:Inv X pins σ H s)(ho:s'.os=s.os)(u:Un (frs X.stack) ch H H' s.heap s'.heap)(hok:Ql X.prog X.w H' s'.heap)(hg:AllBare s'.gens)
  (W0:∀b∈ch,(b∈X.ex∨X.s₀.heap.objs.size≤b)∧b≠X.env.locals∧(∀x c,X.env.cells.lookup x=some c→c≠b)∧∀p∈X.pn++pins,p.1≠b):Inv X pins σ H' s':=by
 obtain⟨h',g',d',t',o'⟩:=s';have e:o'=s.os:=ho;subst e;exact I.call (g':=g') (t':=t') (d':=d') u hok hg W0
end
abbrev XK:=Value→Option Addr→Hp→Prop
abbrev St:=List (Option V)
abbrev VK:=V→Hp→Prop
abbrev TE:=St→Hp→VK→Prop
abbrev TT:=St→Hp→(Bool→Hp→Prop)→Prop
abbrev TA:=St→Hp→(List V→Hp→Prop)→Prop
structure mQ where
 nx:St→Hp→Prop
 rt:VK
 bk:St→Hp→Prop:=fun _ _=>False
 ct:St→Hp→Prop:=fun _ _=>False
abbrev TS:=mQ→St→Hp→Prop
def EP(X:Cx)(pins:List (Addr×Obj))(σ:St)(Q:VK)(u:Value)(s':Shared):Prop:=∃v H',Inv X pins σ H' s'∧aQ v u∧Q v H'
def TP(X:Cx)(pins:List (Addr×Obj))(σ:St)(Q:Bool→Hp→Prop)(b:Bool)(s':Shared):Prop:=∃H',Inv X pins σ H' s'∧Q b H'
def AP(X:Cx)(pins:List (Addr×Obj))(σ:St)(Q:List V→Hp→Prop)(us:List Value)(s':Shared):Prop:=∃vs H',Inv X pins σ H' s'∧aL vs us∧Q vs H'
def SP(X:Cx)(pins:List (Addr×Obj))(D:mQ)(f:Flow)(s':Shared):Prop:=
 match f with
 |.next=>∃ σ' H',Inv X pins σ' H' s'∧D.nx σ' H'
 |.brk=>∃ σ' H',Inv X pins σ' H' s'∧D.bk σ' H'
 |.cont=>∃ σ' H',Inv X pins σ' H' s'∧D.ct σ' H'
 |.ret u=>∃v σ' H',Inv X pins σ' H' s'∧aQ v u∧D.rt v H'
def PE(X:Cx)(e:Expr)(t:TE):Prop:=
 ∀(pins:List (Addr×Obj))(s:Shared)(σ:St)(H:Hp)(Q:VK),Inv X pins σ H s→t σ H Q→wpAny (model X.prog X.w) X.A (eval e X.env) (EP X pins σ Q) X.xe s
def PT(X:Cx)(e:Expr)(t:TT):Prop:=
 ∀(pins:List (Addr×Obj))(s:Shared)(σ:St)(H:Hp)(Q:Bool→Hp→Prop),Inv X pins σ H s→t σ H Q→wpAny (model X.prog X.w) X.A (isTrue e X.env (eval e X.env)) (TP X pins σ Q) X.xe s
def PW(X:Cx)(e:Expr)(t:TT):Prop:=
 ∀(whole:Sem Value)(pins:List (Addr×Obj))(s:Shared)(σ:St)(H:Hp)(Q:Bool→Hp→Prop),Inv X pins σ H s→t σ H Q→wpAny (model X.prog X.w) X.A (isTrue e X.env whole) (TP X pins σ Q) X.xe s
theorem PW.pt{X:Cx}{e:Expr}{t:TT}(h:PW X e t):PT X e t:=h _
def PA(X:Cx)(es:List Expr)(t:TA):Prop:=
 ∀(pos:Pos)(pins:List (Addr×Obj))(s:Shared)(σ:St)(H:Hp)(Q:List V→Hp→Prop),Inv X pins σ H s→t σ H Q→wpAny (model X.prog X.w) X.A (spliced (backTo pos (starEach es X.env))) (AP X pins σ Q) X.xe s
def PS(X:Cx)(st:Stmt)(t:TS):Prop:=
 ∀(pins:List (Addr×Obj))(s:Shared)(σ:St)(H:Hp)(D:mQ),Inv X pins σ H s→t D σ H→wpAny (model X.prog X.w) X.A (exec st X.env) (SP X pins D) X.xe s
def Te(X:Cx)(st:List Stmt)(t:TS):Prop:=
 ∀(pins:List (Addr×Obj))(s:Shared)(σ:St)(H:Hp)(D:mQ),Inv X pins σ H s→t D σ H→wpAny (model X.prog X.w) X.A (execs st X.env) (SP X pins D) X.xe s
theorem G4{α:Type}{t:Sem α}{Q Q':α→Shared→Prop}{M:Model}{A:Around}{E:Value→Shared→Prop}{s:Shared}(h:wpAny M A t Q E s)(hQ:∀a s,Q a s→Q' a s):wpAny M A t Q' E s:=wpAny_mono h hQ fun _ _ x=>x
section
variable{X:Cx}
noncomputable def CH(i:Nat):TE:=fun σ H Q=>∃v,σ[i]? =some (some v)∧Q v H
noncomputable def tC(v:V):TE:=fun _ H Q=>Q v H
abbrev sE0(X:Cx)(e:Expr)(es:List Expr):Prop:=starEach (e::es) X.env=(false,eval e X.env)::starEach es X.env
abbrev sP0(X:Cx)(es:List Expr)(pos:Pos):Prop:=(backTo pos (starEach es X.env)).any (·.1)=false
abbrev nD0(x:Str):Prop:=(x==("__debug__":Str))=false
theorem AG{i:Nat}{x:Str}{pos:Pos}(hN:X.N[i]? =some x)(hv:Vis X.env.scope x)(hd:nD0 x:=by decide)(S8:(x==("__classdict__":Str))=false:=by decide):PE X (.Name x pos) (CH i):=by
 intro pins s σ H Q I h;obtain⟨v,e,h⟩:=h;obtain⟨m,hn,hl⟩:=I.loc;obtain⟨u,r,l⟩:=hl i x v hN e hv;have fin:EP X pins σ Q u s:=⟨v,H,I,r,h⟩
 rcases l with⟨hk,hm⟩|⟨hk,c,hc,hcell⟩
 ·exact wpAny_Name (wpAny_loadName_local I.ok.kind hk hn hm fin) hd
 ·rcases hk with hk|hk
  ·exact wpAny_Name (wpAny_loadName_cell I.ok.kind hk hc hcell fin) hd
  ·exact wpAny_Name (wpAny_loadName_free I.ok.kind hk hc hcell fin S8) hd
theorem HB{i j pos}:PE X (.Constant (.int i) j pos) (tC (.int i)):=fun _ _ _ H _ I h=>wpAny_Constant_int ⟨.int i,H,I.tok _,⟨_,rfl⟩,h⟩
theorem KP{b j pos}:PE X (.Constant (.bool b) j pos) (tC (.bl b)):=fun _ _ _ H _ I h=>Constant_bool ⟨.bl b,H,I,rfl,h⟩
theorem HA{j pos}:PE X (.Constant .none j pos) (tC .non):=fun _ _ _ H _ I h=>Constant_none ⟨.non,H,I,rfl,h⟩
theorem Hx{x j pos}:PE X (.Constant (.str x) j pos) (tC (.str x)):=fun _ _ _ H _ I h=>Calls.Constant_str ⟨.str x,H,I.tok _,⟨_,rfl⟩,h⟩
def Gl(X:Cx)(x:Str):Prop:=X.env.kindOf x=some .globalImplicit
theorem jJ{E:Value→Shared→Prop}{pins:List (Addr×Obj)}{s:Shared}{σ:St}{H:Hp}{x:Str}{u:Value}{pos:Pos}{Q:Value→Shared→Prop}(I:Inv X pins σ H s)(hg:Gl X x)(hm:X.mg x=some u)(h:Q u s)
  (hd:nD0 x:=by decide):wpAny (model X.prog X.w) X.A (eval (.Name x pos) X.env) Q E s:=
 Calls.Name_function_global I.ok.kind hg (Calls.loadGlobal_global (by rw[I.ok.glob];exact I.mod.glob.keeps I.bk) hm h) hd
theorem gm{E:Value→Shared→Prop}{pins:List (Addr×Obj)}{s:Shared}{σ:St}{H:Hp}{x:Str}{u:Value}{pos:Pos}{Q:Value→Shared→Prop}(I:Inv X pins σ H s)(hg:Gl X x)(hm:X.mg x=none)(hv:bootBuiltins x=some u)(h:Q u s)
  (hn:x≠"__name__":=by decide) (hd:nD0 x:=by decide):wpAny (model X.prog X.w) X.A (eval (.Name x pos) X.env) Q E s:=by
 obtain⟨mb,h1,h2⟩:=I.mod.blt;exact Calls.Name_function_global I.ok.kind hg (Calls.loadGlobal_builtin (by rw[I.ok.glob];exact I.mod.glob.keeps I.bk) hm (by rw[I.ok.blt];exact h1.keeps I.bk) ((h2 x hn).trans hv) h) hd
theorem rP{x:Str}{v:V}{u:Value}{pos:Pos}(hg:Gl X x)(hm:X.mg x=some u)(r:aQ v u)(hd:nD0 x:=by decide):PE X (.Name x pos) (tC v):=
 fun _ _ _ H _ I h=>jJ I hg hm ⟨v,H,I,r,h⟩ hd
theorem DI{x:Str}{v:V}{u:Value}{pos:Pos}(hg:Gl X x)(hm:X.mg x=none)(hv:bootBuiltins x=some u)(r:aQ v u)(hn:x≠"__name__":=by decide)(hd:nD0 x:=by decide):PE X (.Name x pos) (tC v):=
 fun _ _ _ H _ I h=>gm I hg hm hv ⟨v,H,I,r,h⟩ hn hd
variable{a b:Expr}{ta tb:TE}{pos:Pos}
variable{tA tB':TT}{rest:List Expr}
noncomputable def tOr(t u:TT):TT:=fun σ H Q=>t σ H fun c H1=>if c=true then Q true H1 else u σ H1 Q
noncomputable def Mu(t:TT):TT:=fun σ H Q=>t σ H fun c H1=>Q (!c) H1
theorem Hg(ha:PT X a tA):PW X (.BoolOp .Or [a] pos) tA:=by
 intro wh pins s σ H Q I h;refine isTrue_or (G4 (ha pins s σ H Q I h) fun c s1 e=>?_)
 cases c with
 |false=>exact isTrue_or_nil e
 |true=>exact e
theorem KJ(ha:PT X a tA)(hb:PW X (.BoolOp .Or (b::rest) pos) tB'):PW X (.BoolOp .Or (a::b::rest) pos) (tOr tA tB'):=by
 intro wh pins s σ H Q I h;refine isTrue_or (G4 (ha pins s σ H _ I h) ?_);rintro c s1 ⟨H1,I1,q1⟩
 cases c with
 |true=>exact⟨H1,I1,q1⟩
 |false=>exact hb wh pins s1 σ H1 Q I1 q1
theorem Hh(ha:PT X a tA):PT X (.UnaryOp .Not a pos) (Mu tA):=by intro pins s σ H Q I h;exact isTrue_not (ha pins s σ H (fun c H1=>Q (!c) H1) I h)
noncomputable def Kg(ta tb:TE):TE:=fun σ H Q=>ta σ H fun x H1=>∃c,x=.bl c∧if c=true then tb σ H1 Q else Q (.bl false) H1
noncomputable def JY(ta:TE):TE:=fun σ H Q=>ta σ H fun x H1=>∃c,x=.bl c∧Q (.bl (!c)) H1
theorem Hy{op}{t:TE}(h:PE X a t):PE X (.BoolOp op [a] pos) t:=fun pins s σ H Q I hw=>BoolOp_one (h pins s σ H Q I hw)
theorem HD(ha:PE X a ta)(hb:PE X (.BoolOp .And (b::rest) pos) tb):PE X (.BoolOp .And (a::b::rest) pos) (Kg ta tb):=by
 intro pins s σ H Q I h;refine BoolOp_and (G4 (ha pins s σ H _ I h) ?_);rintro v s1 ⟨x,H1,I1,r1,q1⟩;obtain⟨c,rfl,q1⟩:=q1
 cases r1
 refine wpAny_truthy_bool ?_
 cases c with
 |true=>exact hb pins s1 σ H1 Q I1 q1
 |false=>exact⟨.bl false,H1,I1,rfl,q1⟩
theorem Hz(ha:PE X a ta):PE X (.UnaryOp .Not a pos) (JY ta):=by
 intro pins s σ H Q I h;refine UnaryOp_ (G4 (ha pins s σ H _ I h) ?_);rintro v s1 ⟨x,H1,I1,r1,q1⟩;obtain⟨c,rfl,q1⟩:=q1
 cases r1
 exact not_of (wpAny_truthy_bool ⟨.bl (!c),H1,I1,rfl,q1⟩)
noncomputable def tIf(t:TT)(ta tb:TE):TE:=fun σ H Q=>t σ H fun c H1=>if c=true then ta σ H1 Q else tb σ H1 Q
theorem AO{c:Expr}(hc:PT X c tA)(ha:PE X a ta)(hb:PE X b tb):PE X (.IfExp c a b pos) (tIf tA ta tb):=by
 intro pins s σ H Q I h;refine wpAny_IfExp (G4 (hc pins s σ H _ I h) ?_);rintro d s1 ⟨H1,I1,q1⟩
 cases d with
 |true=>exact ha pins s1 σ H1 Q I1 q1
 |false=>exact hb pins s1 σ H1 Q I1 q1
end
def O4(K:W.Frag)(H:Hp)(a:Addr)(xs:List V):Prop:=
 Rd H a (.lst xs)∨
  ∃(o:Obj)(its:Array Value)(n:Nat),K.lookup a=some o∧o.cls=.type "list"∧o.dict=none∧o.data=.seq its n∧its.size≤sizeLine∧aL xs its.toList
def PN(K:W.Frag)(H:Hp)(a:Addr)(xs:List V):Prop:=
 Rd H a (.tup xs)∨
  ∃(o:Obj)(its:Array Value)(n:Nat),K.lookup a=some o∧o.cls=.type "tuple"∧o.data=.seq its n∧its.size≤sizeLine∧aL xs its.toList
noncomputable def NS:Value→Option V
 |.none=>some .non
 |.bool b=>some (.bl b)
 |.int i _=>some (.int i)
 |.str x _=>some (.str x)
 |.bytes b _=>some (.YX b)
 |.float b _=>some (.flt b)
 |.ref a=>some (.ref a)
 |.type n=>some (.ty n)
 |_=>none
theorem aQ.abs{x:V}{u:Value}(r:aQ x u):NS u=some x:=by
 cases x with
 |non=>cases r;rfl
 |bl _=>cases r;rfl
 |int _=>obtain⟨t,rfl⟩:=r;rfl
 |str _=>obtain⟨t,rfl⟩:=r;rfl
 |YX _=>obtain⟨t,rfl⟩:=r;rfl
 |flt _=>obtain⟨t,rfl⟩:=r;rfl
 |ref _=>cases r;rfl
 |ty _=>cases r;rfl
theorem aQ.inj{x y:V}{u:Value}(r:aQ x u)(q:aQ y u):x=y:=Option.some.inj (r.abs.symm.trans q.abs)
theorem aL.inj:∀{xs ys:List V}{us:List Value},aL xs us→aL ys us→xs=ys
 |_,_,_,.nil,.nil=>rfl
 |_,_,_,.cons r t,.cons r' t'=>by rw[r.inj r',aL.inj t t']
section
variable{X:Cx}{pins:List (Addr×Obj)}{σ:St}{H:Hp}{s:Shared}{a:Addr}{xs ys:List V}
theorem O4.of{K:W.Frag}(h:H a=some (.lst xs)):O4 K H a xs:=.inl (.inl h)
theorem PN.of{K:W.Frag}(h:H a=some (.tup xs)):PN K H a xs:=.inl (.inl h)
theorem Inv.list(I:Inv X pins σ H s)(h:O4 X.K H a xs):∃its:List Value,aL xs its∧PlainL s.heap a its.toArray∧xs.length≤sizeLine:=by
 rcases h with h|⟨o,its,n,hk,hc,hd,hs,hz,r⟩
 ·obtain⟨z,its,n,r,e⟩:=h.ok I.hok;exact⟨its,r,⟨_,n,e,rfl,rfl,rfl⟩,z⟩
 ·refine⟨its.toList,r,⟨o,n,I.Qj a o hk,hc,hd,by simpa using hs⟩,?_⟩;have e:=r.length;simp only[Array.length_toList]at e;omega
theorem Inv.tuple(I:Inv X pins σ H s)(h:PN X.K H a xs):∃its:List Value,aL xs its∧IsTup s.heap a its.toArray∧xs.length≤sizeLine:=by
 rcases h with h|⟨o,its,n,hk,hc,hs,hz,r⟩
 ·obtain⟨z,its,r,p⟩:=h.ok I.hok;exact⟨its,r,p,z⟩
 ·refine⟨its.toList,r,⟨o,I.Qj a o hk,hc,n,by simpa using hs⟩,?_⟩;have e:=r.length;simp only[Array.length_toList]at e;omega
theorem Inv.Uw(I:Inv X pins σ H s)(h:O4 X.K H a xs)(h':O4 X.K H a ys):xs=ys:=by
 obtain⟨its,r,⟨o,n,e,_,_,d⟩,_⟩:=I.list h;obtain⟨R6,r',⟨o',n',e',_,_,d'⟩,_⟩:=I.list h';rw[e]at e';cases e';rw[d]at d';injection d' with d1 _
 have:its=R6:=by simpa using congrArg Array.toList d1
 subst this;exact r.inj r'
theorem Inv.Tf(I:Inv X pins σ H s)(h:PN X.K H a xs)(h':PN X.K H a ys):xs=ys:=by
 obtain⟨its,r,⟨o,e,_,n,d⟩,_⟩:=I.tuple h;obtain⟨R6,r',⟨o',e',_,n',d'⟩,_⟩:=I.tuple h';rw[e]at e';cases e';rw[d]at d';injection d' with d1 _
 have:its=R6:=by simpa using congrArg Array.toList d1
 subst this;exact r.inj r'
end
abbrev Cx.wish(X:Cx)(E:Value→Shared→Prop):Cx:={ X with xe:=E }
abbrev Cx.Xu(X:Cx):Cx:=X.wish fun _ _=>False
theorem Cx.Ok.wish{X:Cx}(ok:X.Ok)(E:Value→Shared→Prop):(X.wish E).Ok:=
 ⟨ok.mod,ok.kind,ok.glob,ok.blt,ok.above,ok.inj,ok.has,ok.cab,ok.hd,ok.frames,ok.stk,ok.YS,ok.bs,ok.Vz,ok.TY,ok.UG,ok.QJ,ok.V8⟩
theorem Cx.Ok.Qx{X:Cx}{E:Value→Shared→Prop}(ok:(X.wish E).Ok):X.Ok:=
 ⟨ok.mod,ok.kind,ok.glob,ok.blt,ok.above,ok.inj,ok.has,ok.cab,ok.hd,ok.frames,ok.stk,ok.YS,ok.bs,ok.Vz,ok.TY,ok.UG,ok.QJ,ok.V8⟩
section
variable{X:Cx}{pins:List (Addr×Obj)}{σ:St}{H:Hp}{s:Shared}{E:Value→Shared→Prop}
theorem Inv.wish(I:Inv X pins σ H s)(E:Value→Shared→Prop):Inv (X.wish E) pins σ H s:=⟨I.ok.wish E,I.os,I.bare,I.base,I.loc,I.cell,I.free,I.Oz,I.pin,I.hok,I.len⟩
theorem Inv.Qx(I:Inv (X.wish E) pins σ H s):Inv X pins σ H s:=⟨I.ok.Qx,I.os,I.bare,I.base,I.loc,I.cell,I.free,I.Oz,I.pin,I.hok,I.len⟩
theorem SP.Qx{D:mQ}{f:Flow}{s':Shared}(h:SP (X.wish E) pins D f s'):SP X pins D f s':=by
 cases f with
 |next=>obtain⟨σ',H',I,q⟩:=h;exact⟨σ',H',I.Qx,q⟩
 |brk=>obtain⟨σ',H',I,q⟩:=h;exact⟨σ',H',I.Qx,q⟩
 |cont=>obtain⟨σ',H',I,q⟩:=h;exact⟨σ',H',I.Qx,q⟩
 |ret u=>obtain⟨v,σ',H',I,r,q⟩:=h;exact⟨v,σ',H',I.Qx,r,q⟩
theorem Te.Xu{st:List Stmt}{t:TS}(h:Te X.Xu st t):Te X st t:=fun pins s σ H D I hw=>wpAny_mono (h pins s σ H D (I.wish _) hw) (fun _ _ q=>q.Qx) fun _ _ z=>False.elim z
end
section
variable{X:Cx}{st:Stmt}{rest:List Stmt}{t u:TS}{e:Expr}{te:TE}{pos:Pos}
noncomputable def JZ:TS:=fun D σ H=>D.nx σ H
noncomputable def Ms(t u:TS):TS:=fun D σ H=>t { D with nx:=u D } σ H
theorem Dl:Te X [] JZ:=fun _ _ σ H _ I h=>wpAny_execs_nil ⟨σ,H,I,h⟩
theorem Am(h1:PS X st t)(h2:Te X rest u):Te X (st::rest) (Ms t u):=by
 intro pins s σ H D I h;refine wpAny_execs_cons (G4 (h1 pins s σ H { D with nx:=u D } I h) fun f s1 q=>?_)
 cases f with
 |next=>obtain⟨σ',H',I',q⟩:=q;exact h2 pins s1 σ' H' D I' q
 |ret v=>exact q
 |brk=>exact q
 |cont=>exact q
theorem xc(h1:PS X st t):Te X [st] t:=by
 intro pins s σ H D I h;refine wpAny_execs_cons (G4 (h1 pins s σ H D I h) fun f s1 q=>?_)
 cases f with
 |next=>exact wpAny_execs_nil q
 |ret v=>exact q
 |brk=>exact q
 |cont=>exact q
theorem Inv.quiet{pins:List (Addr×Obj)}{σ:St}{H:Hp}{s:Shared}(I:Inv X pins σ H s):interactive X.env=false:=by simp[interactive,I.ok.kind]
noncomputable def FR(te:TE):TS:=fun D σ H=>te σ H fun _ H1=>D.nx σ H1
theorem Do(he:PE X e te)(hs:swapsWith e none pos.line X.env=pure false:=by rfl):PS X (.Expr e pos) (FR te):=by intro pins s σ H D I h;exact wpAny_Expr_any (G4 (he pins s σ H _ I h) (by rintro v s1 ⟨x,H1,I1,r1,q1⟩;exact ⟨σ,H1,I1,q1⟩)) I.quiet hs
noncomputable def Mt(te:TE):TS:=fun D σ H=>te σ H D.rt
theorem Hj(he:PE X e te):PS X (.Return (some e) pos) (Mt te):=by intro pins s σ H D I h;exact wpAny_Return_some (G4 (he pins s σ H _ I h) (by rintro v s1 ⟨x,H1,I1,r1,q1⟩;exact ⟨x,σ,H1,I1,r1,q1⟩))
noncomputable def Mw(c:TT)(t u:TS):TS:=fun D σ H=>c σ H fun b H1=>if b=true then t D σ H1 else u D σ H1
theorem KK{c:Expr}{a b:List Stmt}{tc:TT}(hc:PT X c tc)(ha:Te X a t)(hb:Te X b u):PS X (.If c a b pos) (Mw tc t u):=by
 intro pins s σ H D I h;refine wpAny_If (G4 (hc pins s σ H _ I h) ?_);rintro d s1 ⟨H1,I1,q1⟩
 cases d with
 |true=>exact ha pins s1 σ H1 D I1 q1
 |false=>exact hb pins s1 σ H1 D I1 q1
noncomputable def GI:TS:=fun _ _ _=>False
theorem An:PS X st GI:=fun _ _ _ _ _ _ h=>h.elim
end
abbrev TG:=V→St→Hp→(St→Hp→Prop)→Prop
abbrev W6:=List V→St→Hp→(St→Hp→Prop)→Prop
def PG(X:Cx)(target:Expr)(t:TG):Prop:=
 ∀(pins:List (Addr×Obj))(s:Shared)(σ:St)(H:Hp)(v:V)(u:Value)(Q:St→Hp→Prop),Inv X pins σ H s→aQ v u→t v σ H Q→
  wpAny (model X.prog X.w) X.A (assign target X.env u) (fun _ s'=>∃ σ' H',Inv X pins σ' H' s'∧Q σ' H') X.xe s
def WD(X:Cx)(ts:List Expr)(t:W6):Prop:=
 ∀(pins:List (Addr×Obj))(s:Shared)(σ:St)(H:Hp)(vs:List V)(us:List Value)(Q:St→Hp→Prop),Inv X pins σ H s→aL vs us→t vs σ H Q→
  wpAny (model X.prog X.w) X.A (assignInOrder ((assignEach ts X.env).map (·.2)) us) (fun _ s'=>∃ σ' H',Inv X pins σ' H' s'∧Q σ' H') X.xe s
abbrev JD:=V→V→V→Hp→(Hp→Prop)→Prop
def Mg(X:Cx)(t:JD):Prop:=
 ∀(pins:List (Addr×Obj))(s:Shared)(σ:St)(H:Hp)(o i v:V)(ov iv u:Value)(Q:Hp→Prop),Inv X pins σ H s→aQ o ov→aQ i iv→aQ v u→t o i v H Q→
  wpAny (model X.prog X.w) X.A (setItem ov iv u) (fun _ s'=>∃H',Inv X pins σ H' s'∧Q H') X.xe s
section
variable{X:Cx}{pos:Pos}
noncomputable def xt(i:Nat):TG:=fun v σ H Q=>Q (σ.set i (some v)) H
theorem nz{i:Nat}{x:Str}(hN:X.N.Nodup)(hi:X.N[i]? =some x)(hx:Loc X.env.scope x)(hf:X.fn x=true∨X.env.scope.names.lookup x=some .local:=by first|exact .inl rfl|exact .inr rfl|assumption):PG X (.Name x pos) (xt i):=by intro pins s σ H v u Q I r h;exact wpAny_assign_Name (nQ I hN hi hx r (fun s' I'=>⟨_,H,I',h⟩) hf)
noncomputable def NF:W6:=fun vs σ H Q=>vs= []∧Q σ H
noncomputable def LO(t:TG)(u:W6):W6:=fun vs σ H Q=>∃v r,vs=v::r∧t v σ H fun σ' H'=>u r σ' H' Q
theorem Dz:WD X [] NF:=by
 intro pins s σ H vs us Q I r h;obtain⟨e,h⟩:=h;subst e
 cases r
 exact assignInOrder_nil ⟨σ,H,I,h⟩
theorem AD{e:Expr}{es:List Expr}{t:TG}{u:W6}(h1:PG X e t)(h2:WD X es u)
  (hs:(assignEach (e::es) X.env).map (·.2)=assign e X.env::(assignEach es X.env).map (·.2):=by rfl):WD X (e::es) (LO t u):=by
 intro pins s σ H vs us Q I r h;obtain⟨v,vr,e1,h⟩:=h;subst e1
 cases r with
 |cons r rr=>rw[hs];refine assignInOrder_cons (G4 (h1 pins s σ H _ _ _ I r h) ?_);rintro _ s1 ⟨σ1,H1,I1,q1⟩;exact h2 pins s1 σ1 H1 _ _ Q I1 rr q1
noncomputable def ND(K:W.Frag)(n:Nat)(t:W6):TG:=fun v σ H Q=>∃a xs,v=.ref a∧PN K H a xs∧xs.length=n∧t xs σ H Q
theorem Hr{es:List Expr}{k:Nat}{t:W6}{n:Nat}(hc:X.calm=true)(h:WD X es t)
  (hn:(assignEach es X.env).length=n:=by rfl) (Rh:(assignEach es X.env).findIdx? (·.1)=none:=by rfl):PG X (.Tuple es k pos) (ND X.K n t):=by
 intro pins s σ H v u Q I r hw;obtain⟨a,xs,e1,hq,hl,hw⟩:=hw;subst e1
 cases r
 obtain⟨its,rv,ht,hz⟩:=I.tuple hq;refine assign_Tuple_tuple (I.ok.hd hc) ht (by simp[hn,← hl,rv.length]) Rh fun h' hx=>?_;have I1:Inv X pins σ H { s with heap:=h' }:=I.kept (t':=s.toks) fun b o e=>hx b o (Nat.ne_of_lt (Heap.lt_size e)) e;exact h pins _ σ H xs _ Q I1 (by simpa using rv) hw
noncomputable def NE(to ti:TE)(t:JD):TG:=fun v σ H Q=>to σ H fun o H1=>ti σ H1 fun i H2=>t o i v H2 fun H3=>Q σ H3
theorem Hs{o i:Expr}{to ti:TE}{t:JD}(ho:PE X o to)(hi:PE X i ti)(hs:Mg X t)
  (ha:∀v,assign (.Subscript o i pos) X.env v=(do
   let ov ← holding [v] (eval o X.env)
   let iv ← holding [v,ov] (eval i X.env)
   standAt pos
   holding [v,ov,iv] (setItem ov iv v)
   release [v,ov,iv] []):=by intro _;rfl):PG X (.Subscript o i pos) (NE to ti t):=by
 intro pins s σ H v u Q I r h;rw[ha];refine wpAny_bind (wpAny_holding (G4 (ho pins s σ H _ I h) ?_));rintro ov s1 ⟨x,H1,I1,r1,q1⟩;refine wpAny_bind (wpAny_holding (G4 (hi pins s1 σ H1 _ I1 q1) ?_));rintro iv s2 ⟨y,H2,I2,r2,q2⟩;refine wpAny_bind (wpAny_standAt (wpAny_bind (wpAny_holding (G4 (hs pins s2 σ H2 x y v ov iv u _ I2 r1 r2 r q2) ?_))));rintro _ s3 ⟨H3,I3,q3⟩;exact wpAny_release ⟨σ,H3,I3,q3⟩
noncomputable def Kf(te:TE)(g:TG):TS:=fun D σ H=>te σ H fun x H1=>g x σ H1 D.nx
theorem Ap{tg e:Expr}{te:TE}{g:TG}(he:PE X e te)(hg:PG X tg g)(hs:swapsWithSole [tg] e pos.line X.env=pure false:=by rfl)(hw:swappedStores [tg] e X.env=pure none:=by rfl)
  (h1:(assignEach [tg] X.env).map (·.2)=[assign tg X.env]:=by rfl):PS X (.Assign [tg] e pos) (Kf te g):=by
 intro pins s σ H D I h;refine wpAny_Assign_stores (G4 (he pins s σ H _ I h) ?_) hs hw;rintro v s1 ⟨x,H1,I1,r1,q1⟩;rw[h1];exact G4 (hg pins s1 σ H1 x v _ I1 r1 q1) fun _ s2 q=>q
theorem Hi{i:Nat}{x:Str}{e:Expr}{te:TE}{pos':Pos}(hN:X.N.Nodup)(hi:X.N[i]? =some x)(hx:Loc X.env.scope x)(he:PE X e te)(hs:swapsWith e (some (.Name x pos')) pos.line X.env=pure false:=by rfl)(hf:X.fn x=true∨X.env.scope.names.lookup x=some .local:=by first|exact .inl rfl|exact .inr rfl|assumption):
  PS X (.Assign [.Name x pos'] e pos) (Kf te (xt i)):=by
 intro pins s σ H D I h;refine wpAny_Assign_Name (G4 (he pins s σ H _ I h) ?_) hs;rintro v s1 ⟨y,H1,I1,r1,q1⟩;exact nQ I1 hN hi hx r1 (fun s2 I2=>⟨_,H1,I2,q1⟩) hf
end
structure It where
 go:Nat→Hp→Prop
 XJ:Nat→Hp→V→Hp→Prop
 stop:Nat→Hp→Prop
def iX(X:Cx)(pins:List (Addr×Obj))(H:Hp)(b:Addr):Prop:=
 H b=none∧b≠X.env.locals∧b∉X.fs∧(b∈X.ex∨X.s₀.heap.objs.size≤b)∧(∀x c,X.env.cells.lookup x=some c→c≠b)∧∀p∈X.pn++pins,p.1≠b
theorem Inv.T8{X:Cx}{pins:List (Addr×Obj)}{σ:St}{H H':Hp}{s:Shared}{b:Addr}(I:Inv X pins σ H s)(hb:s.heap.objs.size≤b)(hn:H' b=none):iX X pins H' b:=by
 refine⟨hn,Nat.ne_of_gt (Nat.lt_of_lt_of_le I.lt hb),I.Zo hb,.inr (Nat.le_trans I.sz hb),fun x c e z=>?_,fun p hp z=>?_⟩
 ·obtain⟨v,q⟩:=I.cell x c e;exact absurd (Nat.lt_of_lt_of_le q.lt (by rw[z];exact hb)) (Nat.lt_irrefl _)
 ·exact absurd (Nat.lt_of_lt_of_le (Heap.lt_size (I.pin p hp).1) (by rw[z];exact hb)) (Nat.lt_irrefl _)
structure uV(P:Program)(w:World)(K:W.Frag)(tg:Expr)(J:It)(fp:List Addr)(it:Addr)(tn:Nat→Heap→Prop):Prop where
 mem:it∈fp
 obj:∀i h,tn i h→∀b∈fp,∃o,h.get? b=some o∧∀v,o.data≠.cell v
 keep:∀i h h',tn i h→(∀b∈fp,∀o,h.get? b=some o→h'.get? b=some o)→tn i h'
 item:∀(X:Cx),X.prog=P→X.w=w→X.K=K→X.calm=true→∀(i:Nat)(pins:List (Addr×Obj))(s:Shared)(σ:St)(H:Hp)(E:Value→Shared→Prop),Inv X pins σ H s→(∀b∈fp,iX X pins H b)→tn i s.heap→J.go i H→
  wpAny (model P w) X.A (pyNext (.ref it)) (fun r s1=>∃u,r=some u∧
   wpAny (model P w) X.A (letOwnedTupleGo tg (.ref it) u) (fun _ s2=>∃x H',Inv X pins σ H' s2∧aQ x u∧J.XJ i H x H'∧tn (i+1) s2.heap∧∀b∈fp,H' b=none) E s1) E s
 done:∀(X:Cx),X.prog=P→X.w=w→X.K=K→X.calm=true→∀(i:Nat)(pins:List (Addr×Obj))(s:Shared)(σ:St)(H:Hp)(E:Value→Shared→Prop),Inv X pins σ H s→(∀b∈fp,iX X pins H b)→tn i s.heap→J.stop i H→
  wpAny (model P w) X.A (pyNext (.ref it)) (fun r s1=>r=none∧Inv X pins σ H s1) E s
 self:∀(A:Around)(i:Nat)(s:Shared)(Q:Value→Shared→Prop)(E:Value→Shared→Prop),tn i s.heap→Q (.ref it) s→wpAny (model P w) A (pyIter (.ref it)) Q E s
abbrev TI:=St→Hp→(It→Hp→Prop)→Prop
def PIE(X:Cx)(pins:List (Addr×Obj))(σ:St)(tg:Expr)(R:It→Hp→Prop)(itv:Value)(s2:Shared):Prop:=
 ∃(it:Addr)(fp:List Addr)(tn:Nat→Heap→Prop)(J:It)(H':Hp),itv=.ref it∧Inv X pins σ H' s2∧uV X.prog X.w X.K tg J fp it tn∧tn 0 s2.heap∧(∀b∈fp,iX X pins H' b)∧R J H'
def PI(X:Cx)(tg iter:Expr)(wi:TI):Prop:=
 ∀(pins:List (Addr×Obj))(s:Shared)(σ:St)(H:Hp)(R:It→Hp→Prop),Inv X pins σ H s→wi σ H R→
  wpAny (model X.prog X.w) X.A (eval iter X.env) (fun v s1=>wpAny (model X.prog X.w) X.A (pyIter v) (PIE X pins σ tg R) X.xe s1) X.xe s
theorem xr{M:Model}{A:Around}{E:Value→Shared→Prop}{s:Shared}{tg:Expr}{it:Addr}{u:Value}{o:Obj}{n:String}{vs:Array Value}{Q:Unit→Shared→Prop}(ho:s.heap.get? it=some o)(hc:o.cls=.type n)(hd:o.data=.fields vs)
    (hn: ["enumerate","zip","dict_itemiterator","dict_reverseitemiterator","odict_iterator","itertools.zip_longest","itertools.pairwise"].contains n=false) (hQ:Q () s):wpAny M A (letOwnedTupleGo tg (.ref it) u) Q E s:=by
  unfold letOwnedTupleGo
  cases tg<;>first
    |exact wpAny_pure hQ
    |(cases u<;>first
      |exact wpAny_pure hQ
      |(refine wpAny_bind (wpAny_load ho ?_)
        rw[hc,hd];show wpAny M A (if(["enumerate","zip","dict_itemiterator","dict_reverseitemiterator","odict_iterator","itertools.zip_longest","itertools.pairwise"].contains n&&vs[0]? ==some (rawInt _))=true then _ else _) Q E s;rw[if_neg (by intro h;rw[hn,Bool.false_and]at h;cases h)];exact wpAny_pure hQ))
noncomputable def Itl(K:W.Frag)(a:Addr):It:=
 ⟨fun i H=>∃xs x,O4 K H a xs∧xs[i]? =some x,fun i H x H'=>H'=H∧∀xs,O4 K H a xs→xs[i]? =some x,fun i H=>∃xs,O4 K H a xs∧xs.length≤i⟩
noncomputable def Itt(K:W.Frag)(a:Addr):It:=
 ⟨fun i H=>∃xs x,PN K H a xs∧xs[i]? =some x,fun i H x H'=>H'=H∧∀xs,PN K H a xs→xs[i]? =some x,fun i H=>∃xs,PN K H a xs∧xs.length≤i⟩
noncomputable def Itr(lo:Int)(n:Nat):It:=⟨fun i _=>i<n,fun i H x H'=>H'=H∧x=.int (lo+i),fun i _=>n≤i⟩
theorem xK{P:Program}{w:World}{K:W.Frag}{tg:Expr}(a it:Addr):uV P w K tg (Itl K a) [it] it (fun i h=>h.IsListIter it a i) where
 mem:=by simp
 obj:=fun i h st b hb=>by
  have e:b=it:=by simpa using hb
  subst e;obtain⟨o,e,c,d⟩:=st;exact⟨o,e,fun v z=>by rw[d]at z;cases z⟩
 keep:=fun i h h' st k=>st.at fun o e=>k it (by simp) o e
 item:=by intro X hP hw hK hc i pins s σ H E I hf st hg;subst hP hw hK;obtain⟨xs,x,hq,hx⟩:=hg;obtain⟨its,rv,p,hz⟩:=I.list hq;obtain⟨u,hu,ru⟩:=rv.get hx;obtain⟨f0,f1,f2,f3,f4,f5⟩:=hf it (by simp);refine wpAny_pyNext_list_item st p.isList (x:=u) (by simpa using hu) fun h' Ug sb=>?_;have I1:Inv X pins σ H { s with heap:=h' }:=I.turned (t':=s.toks) (fun b o hb e=>(sb.2 b hb).trans e) f0 f1 f3 f4 f5;obtain⟨o,e,c,d⟩:=id Ug;exact⟨u,rfl,xr (s:={ s with heap:=h' }) e c d (by decide) ⟨x,H,I1,ru,⟨rfl,fun ys hy=>by rw[I.Uw hy hq];exact hx⟩,Ug,fun b hb=>(hf b hb).1⟩⟩
 done:=by intro X hP hw hK hc i pins s σ H E I hf st hg;subst hP hw hK;obtain⟨xs,hq,hx⟩:=hg;obtain⟨its,rv,p,hz⟩:=I.list hq;obtain⟨f0,f1,f2,f3,f4,f5⟩:=hf it (by simp);have hl:=rv.length;exact wpAny_pyNext_list_end (I.ok.hd hc) st p.isList (by simp;omega) fun h' eb=>⟨rfl,I.turned (t':=s.toks) (fun b o hb e=>eb b o hb e) f0 f1 f3 f4 f5⟩
 self:=fun _ _ _ _ _ st h=>wpAny_pyIter_listiter st h
theorem vj{P:Program}{w:World}{K:W.Frag}{tg:Expr}(a it:Addr):uV P w K tg (Itt K a) [it] it (fun i h=>h.IsTupleIter it a i) where
 mem:=by simp
 obj:=fun i h st b hb=>by
  have e:b=it:=by simpa using hb
  subst e;obtain⟨o,e,c,d⟩:=st;exact⟨o,e,fun v z=>by rw[d]at z;cases z⟩
 keep:=fun i h h' st k=>st.at fun o e=>k it (by simp) o e
 item:=by intro X hP hw hK hc i pins s σ H E I hf st hg;subst hP hw hK;obtain⟨xs,x,hq,hx⟩:=hg;obtain⟨its,rv,p,hz⟩:=I.tuple hq;obtain⟨u,hu,ru⟩:=rv.get hx;obtain⟨f0,f1,f2,f3,f4,f5⟩:=hf it (by simp);refine wpAny_pyNext_tuple_item st (show s.heap.IsTuple a its.toArray from p) (x:=u) (by simpa using hu) fun h' Ug sb=>?_;have I1:Inv X pins σ H { s with heap:=h' }:=I.turned (t':=s.toks) (fun b o hb e=>(sb.2 b hb).trans e) f0 f1 f3 f4 f5;obtain⟨o,e,c,d⟩:=id Ug;exact⟨u,rfl,xr (s:={ s with heap:=h' }) e c d (by decide) ⟨x,H,I1,ru,⟨rfl,fun ys hy=>by rw[I.Tf hy hq];exact hx⟩,Ug,fun b hb=>(hf b hb).1⟩⟩
 done:=by intro X hP hw hK hc i pins s σ H E I hf st hg;subst hP hw hK;obtain⟨xs,hq,hx⟩:=hg;obtain⟨its,rv,p,hz⟩:=I.tuple hq;obtain⟨f0,f1,f2,f3,f4,f5⟩:=hf it (by simp);have hl:=rv.length;exact wpAny_pyNext_tuple_end (I.ok.hd hc) st (show s.heap.IsTuple a its.toArray from p) (by simp;omega) fun h' eb=>⟨rfl,I.turned (t':=s.toks) (fun b o hb e=>eb b o hb e) f0 f1 f3 f4 f5⟩
 self:=fun _ _ _ _ _ st h=>wpAny_pyIter_tupleiter st h
theorem vk{P:Program}{w:World}{K:PySem.W.Frag}{tg:Expr}(it:Addr)(lo:Int)(n:Nat):uV P w K tg (Itr lo n) [it] it (fun i h=>IsRangeIter h it (lo+(i:Nat) * 1) ((n:Int) - (i:Nat)) 1) where
 mem:=by simp
 obj:=fun i h st b hb=>by
  have e:b=it:=by simpa using hb
  subst e
  exact⟨_,st,fun v z=>by
   have z':Data.fields _=Data.cell v:=z
   cases z'⟩
 keep:=fun i h h' st k=>k it (by simp) _ st
 item:=by intro X hP hw hK hc i pins s σ H E I hf st hg;subst hP hw hK;obtain⟨f0,f1,f2,f3,f4,f5⟩:=hf it (by simp);have W:=Walks.range (prog:=X.prog) (w:=X.w) (I.ok.hd hc) it lo 1 n;refine W.item i s _ _ hg st fun v h' tk hv Ug kk=>?_;obtain⟨t,rfl⟩:=hv;have I1:Inv X pins σ H { s with heap:=h',toks:=tk }:=I.turned (fun b o hb e=>kk b o (by simpa using hb) e) f0 f1 f3 f4 f5;refine⟨_,rfl,xr (s:={ s with heap:=h',toks:=tk }) (n:="range_iterator") Ug rfl rfl (by decide) ⟨.int (lo+i),H,I1,⟨t,?_⟩,⟨rfl,rfl⟩,Ug,fun b hb=>(hf b hb).1⟩⟩;rw[Int.mul_one]
 done:=by intro X hP hw hK hc i pins s σ H E I hf st hg;subst hP hw hK;obtain⟨f0,f1,f2,f3,f4,f5⟩:=hf it (by simp);exact wpAny_pyNext_range_end (I.ok.hd hc) st (by have:n≤i:=hg;omega) fun h' eb=>⟨rfl,I.turned (t':=s.toks) (fun b o hb e=>eb b o hb e) f0 f1 f3 f4 f5⟩
 self:=fun _ _ _ _ _ st h=>wpAny_pyIter_rangeiter st h
section
variable{X:Cx}{tg:Expr}
def LL(K:W.Frag)(tl:TE):TI:=fun σ H R=>tl σ H fun x H1=>∃a,x=.ref a∧(∃xs,O4 K H1 a xs)∧R (Itl K a) H1
def Nx(K:W.Frag)(tl:TE):TI:=fun σ H R=>tl σ H fun x H1=>∃a,x=.ref a∧(∃xs,PN K H1 a xs)∧R (Itt K a) H1
theorem Dx{l:Expr}{tl:TE}(hl:PE X l tl):PI X tg l (LL X.K tl):=by
 intro pins s σ H R I h;refine G4 (hl pins s σ H _ I h) ?_;rintro v s1 ⟨x,H1,I1,r1,q1⟩;obtain⟨a,e,⟨xs,hq⟩,q⟩:=q1;subst e
 cases r1
 obtain⟨its,rv,p,hz⟩:=I1.list hq;refine wpAny_pyIter_list p.isList ?_;refine⟨s1.heap.objs.size,[s1.heap.objs.size],_,_,H1,rfl,I1.kept (t':=s1.toks) fun b o e=>Heap.get?_push_of_some _ e,xK a _,⟨_,Heap.get?_push_size _ rfl,rfl,rfl⟩,fun b hb=>?_,q⟩;have e:b=s1.heap.objs.size:=by simpa using hb
 subst e;exact I1.T8 (abl _) (I1.hok.fresh (abl _))
theorem Ho{l:Expr}{tl:TE}(hl:PE X l tl):PI X tg l (Nx X.K tl):=by
 intro pins s σ H R I h;refine G4 (hl pins s σ H _ I h) ?_;rintro v s1 ⟨x,H1,I1,r1,q1⟩;obtain⟨a,e,⟨xs,hq⟩,q⟩:=q1;subst e
 cases r1
 obtain⟨its,rv,p,hz⟩:=I1.tuple hq;refine wpAny_pyIter_tuple (show s1.heap.IsTuple a its.toArray from p) ?_;refine⟨s1.heap.objs.size,[s1.heap.objs.size],_,_,H1,rfl,I1.kept (t':=s1.toks) fun b o e=>Heap.get?_push_of_some _ e,vj a _,⟨_,Heap.get?_push_size _ rfl,rfl,rfl⟩,fun b hb=>?_,q⟩;have e:b=s1.heap.objs.size:=by simpa using hb
 subst e;exact I1.T8 (abl _) (I1.hok.fresh (abl _))
theorem Ab{pins:List (Addr×Obj)}{σ:St}{H:Hp}{s:Shared}{R:It→Hp→Prop}{E:Value→Shared→Prop}{lo hi:Int}{t u v:Tok}{tk:Nat}(I:Inv X pins σ H s)(h1: -(2 ^ 62)≤lo)(h2:lo<2 ^ 62)(h3: -(2 ^ 62)≤hi)(h4:hi<2 ^ 62)
  (q:R (Itr lo (hi - lo).toNat) H):wpAny (model X.prog X.w) X.A (pyIter (.ref s.heap.objs.size)) (PIE X pins σ tg R) E { s with heap:=s.heap.push { cls:=.type "range",data:=.fields #[.int lo t,.int hi u,.int 1 v] },toks:=tk }:=by
 refine wpAny_pyIter_range (IsRange.new ..) (small_one h1 h2 h3 h4) ?_;have I1:Inv X pins σ H { s with heap:=s.heap.push { cls:=.type "range",data:=.fields #[.int lo t,.int hi u,.int 1 v] },toks:=tk }:=I.kept fun b o e=>Heap.get?_push_of_some _ e
 refine⟨(s.heap.push { cls:=.type "range",data:=.fields #[.int lo t,.int hi u,.int 1 v] }).objs.size,[(s.heap.push { cls:=.type "range",data:=.fields #[.int lo t,.int hi u,.int 1 v] }).objs.size],_,_,H,rfl,
  I1.kept (t':=tk) fun b o e=>Heap.get?_push_of_some _ e,vk _ lo (hi - lo).toNat,?_,fun b hb=>?_,q⟩
 ·have e1:lo+((0:Nat):Int) * 1=lo:=by simp
  have e2:(((hi - lo).toNat:Nat):Int) - ((0:Nat):Int)=Builtin.Range.rangeSize lo hi 1:=by rw[rangeSize_one];split<;>omega
  show IsRangeIter _ _ (lo+((0:Nat):Int) * 1) ((((hi - lo).toNat:Nat):Int) - ((0:Nat):Int)) 1;rw[e1,e2];exact Heap.get?_push_size _ rfl
 ·have e:b=(s.heap.push { cls:=.type "range",data:=.fields #[.int lo t,.int hi u,.int 1 v] }).objs.size:=by simpa using hb
  subst e;exact I1.T8 (abl _) (I1.hok.fresh (abl _))
def LK(ta:TA):TI:=fun σ H R=>ta σ H fun vs H1=>∃j:Int,vs= [.int j]∧ -(2 ^ 62)≤j∧j<2 ^ 62∧R (Itr 0 j.toNat) H1
theorem yo{a:Expr}{ta:TA}{p pos:Pos}(hg:Gl X "range")(hm:X.mg "range"=none)(ha:PA X [a] ta)(hs:starEach [a] X.env= [(false,eval a X.env)]:=by rfl):PI X tg (.Call (.Name "range" p) [a] [] pos) (LK ta):=by
 intro pins s σ H R I h;refine Call_ (gm I hg hm boot_range (PyProof.Rows.callWith_type1 (G4 (ha pos pins s σ H _ I h) ?_) hs rfl));rintro us s1 ⟨vs,H1,I1,r1,q1⟩;obtain⟨j,e,q1,q2,q⟩:=q1;subst e
 cases r1 with
 |cons r rr=>
  cases rr
  obtain⟨t,rfl⟩:=r;exact call_range_1 (Ab I1 (by omega) (by omega) q1 q2 (by simpa using q))
noncomputable def Mx(wi:TI)(g:TG)(tb:TS):TS:=fun D σ H=>wi σ H fun J H1=>∃W:Nat→Nat→St→Hp→Prop,(∃m,W 0 m σ H1)∧∀i m σ H,W i m σ H→
 (J.stop i H∧D.nx σ H)∨(J.go i H∧∃N:St→Hp→Prop,(∀ σ' H',N σ' H'→∃m',m'<m∧W (i+1) m' σ' H')∧∀x H',J.XJ i H x H'→g x σ H' fun σ2 H2=>tb { D with nx:=N,ct:=N,bk:=D.nx } σ2 H2)
noncomputable def lU(fp:List Addr)(h:Heap):List (Addr×Obj):=fp.filterMap fun b=>(h.get? b).map fun o=>(b,o)
theorem eT{fp:List Addr}{h:Heap}{b:Addr}{o:Obj}(hb:b∈fp)(e:h.get? b=some o):(b,o)∈lU fp h:=List.mem_filterMap.mpr ⟨b,hb,by rw[e];rfl⟩
theorem yz{fp:List Addr}{h:Heap}{p:Addr×Obj}(hp:p∈lU fp h):p.1∈fp∧h.get? p.1=some p.2:=by
 obtain⟨b,hb,e⟩:=List.mem_filterMap.mp hp
 cases q:h.get? b with
 |none=>rw[q]at e;cases e
 |some o=>rw[q]at e;have e':(b,o)=p:=Option.some.inj e;subst e';exact⟨hb,q⟩
theorem Inv.pinned{pins:List (Addr×Obj)}{σ:St}{H:Hp}{s:Shared}{fp:List Addr}(I:Inv X pins σ H s)(hf:∀b∈fp,iX X pins H b)(ho:∀b∈fp,∃o,s.heap.get? b=some o∧∀v,o.data≠.cell v):Inv X (pins++lU fp s.heap) σ H s:=
 I.Oi fun p hp=>(List.mem_append.mp hp).elim (fun z=>I.pin p (List.mem_append_right _ z)) fun z=>by obtain⟨hb,e⟩:=yz z;obtain⟨f0,f1,f2,_⟩:=hf p.1 hb;obtain⟨o,e',d⟩:=ho p.1 hb;rw[e]at e';cases e';exact⟨e,f0,f1,f2,d⟩
theorem Inv.Sy{pins pl:List (Addr×Obj)}{σ:St}{H:Hp}{s:Shared}(I:Inv X (pins++pl) σ H s):Inv X pins σ H s:=I.Oi fun p hp=>I.pin p (List.mem_append_right _ (List.mem_append_left _ hp))
theorem Hk{iter:Expr}{body:List Stmt}{wi:TI}{g:TG}{tb:TS}{pos:Pos}(hp:PassesOwn (model X.prog X.w) X.A X.env X.xe)(hc:X.calm=true)(hi:PI X tg iter wi)(hg:PG X tg g)(hb:Te X body tb)
  (hs:∀x,foldedSetIterable iter X.env x=pure x:=by intro _;rfl):PS X (.For tg iter body [] pos) (Mx wi g tb):=by
 intro pins s σ H D I h;refine wpAny_For (G4 (hi pins s σ H _ I h) fun v s1 h1=>G4 h1 fun itv s2 h2=>?_) hs;obtain⟨it,fp,tn,J,H2,e,I2,T,VF,f2,W,⟨m0,w0⟩,turn⟩:=h2;subst e;have stat:∀{H':Hp},(∀b∈fp,H' b=none)→∀b∈fp,iX X pins H' b:=fun hn b hb=>⟨hn b hb,(f2 b hb).2⟩
 refine codeAny_forLoop_any (fun n s'=>∃i σ' H',Inv X pins σ' H' s'∧tn i s'.heap∧(∀b∈fp,H' b=none)∧W i n σ' H') ?_ m0 ⟨0,σ,H2,I2,VF,fun b hb=>(f2 b hb).1,w0⟩
 rintro n s3 ⟨i,σ3,H3,I3,st3,fr3,w3⟩
 rcases turn i n σ3 H3 w3 with⟨stop,qn⟩|⟨go,N,hN,step⟩
 ·refine wpAny_passesOwn hp (G4 (T.done X rfl rfl rfl hc i pins s3 σ3 H3 X.xe I3 (stat fr3) st3 stop) ?_);rintro r s4 ⟨hr,I4⟩;subst hr;exact wpAny_execs_nil ⟨σ3,H3,I4,qn⟩
 ·refine wpAny_passesOwn hp (G4 (T.item X rfl rfl rfl hc i pins s3 σ3 H3 X.xe I3 (stat fr3) st3 go) ?_);rintro r s4 ⟨u,hr,h4⟩;subst hr;refine wpAny_passesOwn hp (G4 h4 ?_);rintro _ s5 ⟨x,H5,I5,r5,y5,W_,Yt⟩;have YB:=I5.pinned (stat Yt) (T.obj _ _ W_);refine wpAny_passesOwn hp (G4 (hg _ s5 σ3 H5 x u _ YB r5 (step x H5 y5)) ?_);rintro _ s6 ⟨σ6,H6,I6,q6⟩;refine wpAny_passesOwn hp (G4 (hb _ s6 σ6 H6 _ I6 q6) fun f s7 q7=>?_)
  have again:∀{σ7:St}{H7:Hp},Inv X (pins++lU fp s5.heap) σ7 H7 s7→N σ7 H7→∃m,m<n∧∃i σ' H',Inv X pins σ' H' s7∧tn i s7.heap∧(∀b∈fp,H' b=none)∧W i m σ' H':=fun{σ7 H7} I7 n7=>by obtain⟨m',hm,w7⟩:=hN σ7 H7 n7;refine⟨m',hm,i+1,σ7,H7,I7.Sy,T.keep _ _ _ W_ fun b hb o e=>(I7.pin (b,o) (List.mem_append_right _ (List.mem_append_right _ (eT hb e)))).1,fun b hb=>?_,w7⟩;obtain⟨o,e,d⟩:=T.obj _ _ W_ b hb;exact(I7.pin (b,o) (List.mem_append_right _ (List.mem_append_right _ (eT hb e)))).2.1
  cases f with
  |next=>obtain⟨σ7,H7,I7,n7⟩:=q7;exact again I7 n7
  |cont=>obtain⟨σ7,H7,I7,n7⟩:=q7;exact again I7 n7
  |brk=>obtain⟨σ7,H7,I7,q7⟩:=q7;exact⟨σ7,H7,I7.Sy,q7⟩
  |ret v=>obtain⟨x7,σ7,H7,I7,r7,q7⟩:=q7;exact⟨x7,σ7,H7,I7.Sy,r7,q7⟩
end
abbrev R2:=V→V→Hp→VK→Prop
def Pa(X:Cx)(f:Value→Value→Sem Value)(r:R2):Prop:=
 ∀(pins:List (Addr×Obj))(s:Shared)(σ:St)(H:Hp)(x y:V)(v u:Value)(Q:VK),Inv X pins σ H s→aQ x v→aQ y u→r x y H Q→
  wpAny (model X.prog X.w) X.A (f v u) (EP X pins σ Q) X.xe s
def UnR(X:Cx)(f:Value→Sem Value)(r:V→Hp→VK→Prop):Prop:=
 ∀(pins:List (Addr×Obj))(s:Shared)(σ:St)(H:Hp)(x:V)(v:Value)(Q:VK),Inv X pins σ H s→aQ x v→r x H Q→
  wpAny (model X.prog X.w) X.A (f v) (EP X pins σ Q) X.xe s
def dD(X:Cx)(f:Value)(r:List V→Hp→VK→Prop):Prop:=
 ∀(pins:List (Addr×Obj))(s:Shared)(σ:St)(H:Hp)(xs:List V)(us:List Value)(Q:VK),Inv X pins σ H s→aL xs us→r xs H Q→
  wpAny (model X.prog X.w) X.A (call f us) (EP X pins σ Q) X.xe s
def NU(X:Cx)(r:V→Hp→(Bool→Hp→Prop)→Prop):Prop:=
 ∀(pins:List (Addr×Obj))(s:Shared)(σ:St)(H:Hp)(x:V)(v:Value)(Q:Bool→Hp→Prop),Inv X pins σ H s→aQ x v→r x H Q→
  wpAny (model X.prog X.w) X.A (truthy v) (TP X pins σ Q) X.xe s
noncomputable def Y9(r:R2)(ta tb:TE):TE:=fun σ H Q=>ta σ H fun x H1=>tb σ H1 fun y H2=>r x y H2 Q
noncomputable def tUn(r:V→Hp→VK→Prop)(ta:TE):TE:=fun σ H Q=>ta σ H fun x H1=>r x H1 Q
noncomputable def rI(C:Int→Int→Prop)(g:Int→Int→V):R2:=fun x y H Q=>∃i j,x=.int i∧y=.int j∧C i j∧Q (g i j) H
noncomputable def WW(g:Int→Int→V):R2:=fun x y H Q=>∃i j,x=.int i∧y=.int j∧Q (g i j) H
def rU(g:Int→V):V→Hp→VK→Prop:=fun x H Q=>∃i,x=.int i∧Q (g i) H
section
variable{X:Cx}{a b c:Expr}{ta tb tc:TE}{pos:Pos}
theorem Jy(ha:PE X a ta)(hb:PE X b tb){pins:List (Addr×Obj)}{s:Shared}{σ:St}{H:Hp}{R:V→V→Hp→Prop}(I:Inv X pins σ H s)
  (h:ta σ H fun x H1=>tb σ H1 fun y H2=>R x y H2) {Q:Value→Shared→Prop} {f:Value→Value→Sem Value}
  (hf:∀v u s2 x y H2,Inv X pins σ H2 s2→aQ x v→aQ y u→R x y H2→wpAny (model X.prog X.w) X.A (f v u) Q X.xe s2):
  wpAny (model X.prog X.w) X.A (eval a X.env) (fun v s₁=>wpAny (model X.prog X.w) X.A (eval b X.env) (fun u s₂=>wpAny (model X.prog X.w) X.A (f v u) Q X.xe s₂) X.xe s₁) X.xe s:=by
 refine G4 (ha pins s σ H _ I h) ?_;rintro v s1 ⟨x,H1,I1,r1,q1⟩;refine G4 (hb pins s1 σ H1 _ I1 q1) ?_;rintro u s2 ⟨y,H2,I2,r2,q2⟩;exact hf v u s2 x y H2 I2 r1 r2 q2
theorem KM{op:Operator}{r:R2}(ho:Pa X (binaryOp op) r)(ha:PE X a ta)(hb:PE X b tb):PE X (.BinOp a op b pos) (Y9 r ta tb):=by intro pins s σ H Q I h;exact wpAny_BinOp (Jy ha hb I h fun v u s2 x y H2 I2 rx ry q=>ho pins s2 σ H2 x y v u Q I2 rx ry q)
theorem KL{op:UnaryOp}{r:V→Hp→VK→Prop}(ho:UnR X (unaryOp op) r)(ha:PE X a ta):PE X (.UnaryOp op a pos) (tUn r ta):=by intro pins s σ H Q I h;exact UnaryOp_ (G4 (ha pins s σ H _ I h) (by rintro v s1 ⟨x,H1,I1,r1,q1⟩;exact ho pins s1 σ H1 x v Q I1 r1 q1))
theorem opI{f:Value→Value→Sem Value}{C:Int→Int→Prop}{g:Int→Int→Int}
  (rule:∀(i j:Int)(t u:Tok)(s:Shared)(Q:Value→Shared→Prop)(E:Value→Shared→Prop),C i j→Q (.int (g i j) s.toks) { s with toks:=s.toks+1 }→wpAny (model X.prog X.w) X.A (f (.int i t) (.int j u)) Q E s):
  Pa X f (rI C fun i j=>.int (g i j)):=by
 intro pins s σ H x y v u Q I rx ry h;obtain⟨i,j,rfl,rfl,hc,q⟩:=h;obtain⟨t,rfl⟩:=rx;obtain⟨t',rfl⟩:=ry;exact rule i j t t' s _ _ hc ⟨.int (g i j),H,I.tok _,⟨_,rfl⟩,q⟩
theorem KU{f:Value→Value→Sem Value}{g:Int→Int→Int}
  (rule:∀(i j:Int)(t u:Tok)(s:Shared)(Q:Value→Shared→Prop)(E:Value→Shared→Prop),Q (.int (g i j) s.toks) { s with toks:=s.toks+1 }→wpAny (model X.prog X.w) X.A (f (.int i t) (.int j u)) Q E s):
  Pa X f (WW fun i j=>.int (g i j)):=by
 intro pins s σ H x y v u Q I rx ry h;obtain⟨i,j,rfl,rfl,q⟩:=h;obtain⟨t,rfl⟩:=rx;obtain⟨t',rfl⟩:=ry;exact rule i j t t' s _ _ ⟨.int (g i j),H,I.tok _,⟨_,rfl⟩,q⟩
theorem HN{f:Value→Value→Sem Value}{g:Int→Int→Bool}
  (rule:∀(i j:Int)(t u:Tok)(s:Shared)(Q:Value→Shared→Prop)(E:Value→Shared→Prop),Q (.bool (g i j)) s→wpAny (model X.prog X.w) X.A (f (.int i t) (.int j u)) Q E s):
  Pa X f (WW fun i j=>.bl (g i j)):=by
 intro pins s σ H x y v u Q I rx ry h;obtain⟨i,j,rfl,rfl,q⟩:=h;obtain⟨t,rfl⟩:=rx;obtain⟨t',rfl⟩:=ry;exact rule i j t t' s _ _ ⟨.bl (g i j),H,I,rfl,q⟩
def Ob(i j:Int):Prop:=0<j∧j<1073741824
def Oa(i j:Int):Prop:=0≤j∧j≤1000000∧i.natAbs<2 ^ 64
def FF(i j:Int):Prop:=(-(2 ^ 64)<i∧i<2 ^ 64)∨(-(2 ^ 64)<j∧j<2 ^ 64)
theorem FF.ok{i j:Int}(h:FF i j):IntMulOk i j:=by
 rcases h with⟨h1,h2⟩|⟨h1,h2⟩
 ·exact .of_left (intBits_le_64 h1 h2)
 ·exact .of_right (intBits_le_64 h1 h2)
theorem HM:Pa X (binaryOp .Add) (WW fun i j=>.int (i+j)):=KU fun _ _ _ _ _ _ _ q=>add_int q
theorem HF:Pa X (binaryOp .Sub) (WW fun i j=>.int (i - j)):=KU fun _ _ _ _ _ _ _ q=>sub_int q
theorem DR:Pa X (binaryOp .FloorDiv) (rI Ob fun i j=>.int (i / j)):=opI fun i j _ _ _ _ _ hc q=>by have h1:(0:Int)<j:=hc.1;have h2:j<1073741824:=hc.2;exact floordiv_int (by omega) (by rw[Int.fdiv_eq_ediv_of_nonneg i (by omega)];exact q) (.inl (PyProof.noPylong_small (by omega)))
theorem HI:Pa X (binaryOp .Mod) (rI (fun _ j=>0<j) fun i j=>.int (i % j)):=opI fun i j _ _ _ _ _ hc q=>by have h1:(0:Int)<j:=hc;exact mod_int' (by omega) (by rw[Int.fmod_eq_emod_of_nonneg i (by omega)];exact q)
theorem HH:Pa X (binaryOp .Pow) (rI Oa fun i j=>.int (i ^ j.toNat)):=opI fun _ _ _ _ _ _ _ hc q=>pow_int_small hc.1 hc.2.1 hc.2.2 q
theorem unI{f:Value→Sem Value}{g:Int→Int}
  (rule:∀(i:Int)(t:Tok)(s:Shared)(Q:Value→Shared→Prop)(E:Value→Shared→Prop),Q (.int (g i) s.toks) { s with toks:=s.toks+1 }→wpAny (model X.prog X.w) X.A (f (.int i t)) Q E s):
  UnR X f (rU fun i=>.int (g i)):=by
 intro pins s σ H x v Q I rx h;obtain⟨i,rfl,q⟩:=h;obtain⟨t,rfl⟩:=rx;exact rule i t s _ _ ⟨.int (g i),H,I.tok _,⟨_,rfl⟩,q⟩
theorem GB:UnR X (unaryOp .USub) (rU fun i=>.int (-i)):=unI fun _ _ _ _ _ q=>neg_int q
theorem yx:Pa X (binaryOp .Add) (fun x y H Q=>∃i k,x=.int i∧y=.bl k∧Q (.int (i+b2i k)) H):=by
 intro pins s σ H x y v u Q I rx ry h;obtain⟨i,k,rfl,rfl,q⟩:=h;obtain⟨t,rfl⟩:=rx
 cases ry
 exact add_int_bool ⟨.int (i+b2i k),H,I.tok _,⟨_,rfl⟩,q⟩
end
section
variable{X:Cx}{a b c:Expr}{ta tb tc:TE}{pos:Pos}
theorem Jc{pins:List (Addr×Obj)}{σ:St}{H:Hp}{s:Shared}{Q:VK}{k k':Bool}(I:Inv X pins σ H s)(q:Q (.bl k) H)(e:k=k'):EP X pins σ Q (.bool k') s:=by subst e;exact⟨.bl k,H,I,rfl,q⟩
theorem xk:Pa X (compareOp .Lt) (WW fun i j=>.bl (decide (i<j))):=HN fun _ _ _ _ _ _ _ q=>lt_int q
theorem xl:Pa X (compareOp .LtE) (WW fun i j=>.bl (decide (i≤j))):=HN fun _ _ _ _ _ _ _ q=>le_int q
theorem qe:Pa X (compareOp .Gt) (WW fun i j=>.bl (decide (j<i))):=HN fun _ _ _ _ _ _ _ q=>gt_int q
theorem HJ:Pa X (compareOp .Is) (fun x y H Q=>y=.non∧Q (.bl (decide (x=.non))) H):=by
 intro pins s σ H x y v u Q I rx ry h;obtain⟨rfl,q⟩:=h
 cases ry
 refine is_none_gen (Jc I q ?_)
 cases x<;>first
  |(cases rx;rfl)
  |(obtain⟨t,rfl⟩:=rx;rfl)
theorem bv(b:Expr){op:CmpOp}(h:op≠.In:=by decide)(h2:op≠.NotIn:=by decide):behindInMarks op b=false:=by
 have e1:(op==CmpOp.In)=false:=by cases op<;>first|rfl|exact absurd rfl h
 have e2:(op==CmpOp.NotIn)=false:=by cases op<;>first|rfl|exact absurd rfl h2
 cases b<;>simp[behindInMarks,e1,e2]
theorem DH{op:CmpOp}{r:R2}(ho:Pa X (compareOp op) r)(ha:PE X a ta)(hb:PE X b tb)(hm:behindInMarks op b=false):PE X (.Compare a [op] [b] pos) (Y9 r ta tb):=by intro pins s σ H Q I h;exact wpAny_Compare1 (Jy ha hb I h fun v u s2 x y H2 I2 rx ry q=>ho pins s2 σ H2 x y v u Q I2 rx ry q) hm
noncomputable def FP(t:TE):TT:=fun σ H Q=>t σ H fun x H'=>∃k,x=.bl k∧Q k H'
theorem Dk{op:CmpOp}{r:R2}(ho:Pa X (compareOp op) r)(ha:PE X a ta)(hb:PE X b tb)(hm:behindInMarks op b=false):PT X (.Compare a [op] [b] pos) (FP (Y9 r ta tb)):=by
 intro pins s σ H Q I h
 refine wpAny_isTrue_Compare1 (G4 (ha pins s σ H _ I h) fun v s1 ⟨x,H1,I1,r1,q1⟩=>G4 (hb pins s1 σ H1 _ I1 q1) fun u s2 ⟨y,H2,I2,r2,q2⟩=>G4 (ho pins s2 σ H2 x y v u _ I2 r1 r2 q2) ?_) hm;rintro c s3 ⟨z,H3,I3,r3,k,e,q3⟩
 subst e
 cases r3
 exact wpAny_truthy_bool ⟨H3,I3,q3⟩
noncomputable def zG(r r':R2)(ta tb tc:TE):TE:=fun σ H Q=>ta σ H fun x H1=>tb σ H1 fun y H2=>r x y H2 fun z H3=>∃k,z=.bl k∧
 (if k=true then tc σ H3 fun w' H4=>r' y w' H4 Q else Q (.bl false) H3)
theorem Al{op X6:CmpOp}{r r':R2}(ho:Pa X (compareOp op) r)(T6:Pa X (compareOp X6) r')(ha:PE X a ta)(hb:PE X b tb)(hc:PE X c tc)
  (hm:lastMarks [op,X6] [b,c]=false:=by with_unfolding_all rfl):PT X (.Compare a [op,X6] [b,c] pos) (FP (zG r r' ta tb tc)):=by
 intro pins s σ H Q I h
 refine isTrue_chain (G4 (ha pins s σ H _ I h) fun v s1 ⟨x,H1,I1,r1,q1⟩=>test_link (G4 (hb pins s1 σ H1 _ I1 q1) fun u s2 ⟨y,H2,I2,r2,q2⟩=>G4 (ho pins s2 σ H2 x y v u _ I2 r1 r2 q2) ?_)) hm;rintro d s3 ⟨z,H3,I3,r3,k,e,q3⟩
 subst e
 cases r3
 refine wpAny_truthy_bool ?_
 cases k with
 |false=>
  obtain⟨k',e',q'⟩:=q3
  cases e'
  exact ite_ff ⟨H3,I3,q'⟩
 |true=>
  refine ite_tt (test_last (G4 (hc pins s3 σ H3 _ I3 q3) fun w' s4 ⟨z',H4,I4,r4,q4⟩=>G4 (T6 pins s4 σ H4 y z' u w' _ I4 r2 r4 q4) ?_));rintro d' s5 ⟨z2,H5,I5,r5,k2,e2,q5⟩;subst e2
  cases r5
  exact wpAny_truthy_bool ⟨H5,I5,q5⟩
def JC(K:W.Frag)(x:V)(H:Hp)(k:Bool):Prop:=
 match x with
 |.non=>k=false
 |.bl b=>k=b
 |.int i=>k=(i !=0)
 |.str y=>y.length≤sizeLine∧k=((y.length:Int) !=0)
 |.YX y=>y.size≤sizeLine∧k=((y.size:Int) !=0)
 |.ref p=>(∃xs,O4 K H p xs∧k=!xs.isEmpty)∨(∃xs,PN K H p xs∧k=!xs.isEmpty)∨∃kvs,H p=some (.dK kvs)∧k=!kvs.isEmpty
 |_=>False
theorem wa{κ:Type}{kvs:List (κ×V)}{vs:List (κ×Value)}(r:KV kvs vs):(!vs.isEmpty)=!kvs.isEmpty:=by cases r<;>rfl
theorem oE{xs:List V}{its:List Value}(r:aL xs its):(!its.toArray.isEmpty)=!xs.isEmpty:=by cases r<;>simp
theorem ku:(sizeLine:Nat)<2 ^ 63:=by rw[sizeLine_eq];decide
theorem GE:NU X (fun x H Q=>∃k,JC X.K x H k∧Q k H):=by
 intro pins s σ H x v Q I rx h;obtain⟨k,e,q⟩:=h;have hl:=ku;have hs:sizeLine=16777216:=sizeLine_eq
 cases x with
 |non=>
  cases rx
  have e':k=false:=e;subst e';exact truthy_none ⟨H,I,q⟩
 |bl b=>
  cases rx
  have e':k=b:=e;subst e';exact wpAny_truthy_bool ⟨H,I,q⟩
 |int i=>obtain⟨t,rfl⟩:=rx;have e':k=(i !=0):=e;subst e';exact PySem.P.truthy_int ⟨H,I,q⟩
 |str y=>obtain⟨t,rfl⟩:=rx;obtain⟨hy,e'⟩:y.length≤sizeLine∧k=((y.length:Int) !=0):=e;subst e';exact PySem.P.truthy_str (by omega) ⟨H,I.tok _,q⟩
 |YX y=>obtain⟨t,rfl⟩:=rx;obtain⟨hy,e'⟩:y.size≤sizeLine∧k=((y.size:Int) !=0):=e;subst e';exact W.truthy_bytes (by omega) ⟨H,I.tok _,q⟩
 |ref p=>
  cases rx
  have e':(∃xs,O4 X.K H p xs∧k=!xs.isEmpty)∨(∃xs,PN X.K H p xs∧k=!xs.isEmpty)∨∃kvs,H p=some (.dK kvs)∧k=!kvs.isEmpty:=e;rcases e' with⟨xs,hx,e'⟩|⟨xs,hx,e'⟩|⟨kvs,hx,e'⟩
  ·subst e';obtain⟨its,r,pl,hz⟩:=I.list hx;have K3:=r.length;exact wpAny_truthy_list pl.isList (by simp only[List.size_toArray];omega) ⟨H,I.tok _,by rw[oE r];exact q⟩
  ·subst e';obtain⟨its,r,pl,hz⟩:=I.tuple hx;have K3:=r.length;exact truthy_tuple pl (by simp only[List.size_toArray];omega) ⟨H,I.tok _,by rw[oE r];exact q⟩
  ·subst e';obtain⟨hz,hS,vs,r,m⟩:kvs.length≤sizeLine∧(p==sysModules)=false∧∃vs,KV kvs vs∧s.heap.DictOf (bF X.prog X.w) p vs:=I.hok p _ hx;have K3:kvs.length=vs.length:=Paired.length r;exact wpAny_truthy_dict hS m (by omega) ⟨H,I.tok _,by rw[wa r];exact q⟩
 |_=>exact(show False from e).elim
theorem Ak(ha:PE X a ta)(he:∀whole,isTrue a X.env whole=(do let v ← whole;standAt a.pos;holding [v] (truthy v))):
  PT X a (fun σ H Q=>ta σ H fun x H'=>∃k,JC X.K x H' k∧Q k H'):=by
 intro pins s σ H Q I h;exact isTrue_plain (G4 (ha pins s σ H _ I h) (by rintro v s1 ⟨x,H1,I1,r1,q1⟩;exact GE pins s1 σ H1 x v Q I1 r1 q1)) (he _)
theorem vI:Pa X (binaryOp .Add) (fun x y H Q=>∃i j,x=.str i∧y=.str j∧i.length+j.length≤sizeLine∧Q (.str (i++j)) H):=by intro pins s σ H x y v u Q I rx ry h;obtain⟨i,j,rfl,rfl,hz,q⟩:=h;obtain⟨t,rfl⟩:=rx;obtain⟨t',rfl⟩:=ry;exact add_str (fun t' tk=>⟨.str (i++j),H,I.tok _,⟨_,rfl⟩,q⟩) hz
theorem kB{x:V}{us:List Value}(r:aL [x] us):∃u,us= [u]∧aQ x u:=by
 cases r with
 |cons r1 r2=>cases r2;exact⟨_,rfl,r1⟩
theorem JR{x y:V}{us:List Value}(r:aL [x,y] us):∃u w',us= [u,w']∧aQ x u∧aQ y w':=by
 cases r with
 |cons r1 r2=>
  cases r2 with
  |cons r3 r4=>cases r4;exact⟨_,_,rfl,r1,r3⟩
theorem BT:dD X (.builtin "abs") (fun xs H Q=>∃i,xs= [.int i]∧Q (.int (if i<0 then -i else i)) H):=by intro pins s σ H xs us Q I r h;obtain⟨i,rfl,q⟩:=h;obtain⟨u,rfl,t,rfl⟩:=kB r;exact call_abs_int fun u tk=>⟨.int (if i<0 then -i else i),H,I.tok _,⟨_,rfl⟩,q⟩
theorem zi:dD X (.type "int") (fun xs H Q=>(∃i,xs= [.int i]∧Q (.int i) H)∨∃k,xs= [.bl k]∧Q (.int (if k then 1 else 0)) H):=by
 intro pins s σ H xs us Q I r h;rcases h with⟨i,rfl,q⟩|⟨k,rfl,q⟩
 ·obtain⟨u,rfl,t,rfl⟩:=kB r;exact call_int_int ⟨.int i,H,I,⟨_,rfl⟩,q⟩
 ·obtain⟨u,rfl,r1⟩:=kB r
  cases r1
  exact call_int_bool ⟨.int (if k then 1 else 0),H,I.tok _,⟨_,rfl⟩,q⟩
theorem sB:dD X (.type "str") (fun xs H Q=>∃i,xs= [.int i]∧i.natAbs.log2<1920∧Q (.str (toString i)) H):=by intro pins s σ H xs us Q I r h;obtain⟨i,rfl,hz,q⟩:=h;obtain⟨u,rfl,t,rfl⟩:=kB r;exact PySem.P.str_of_int hz ⟨.str _,H,I.tok _,⟨_,rfl⟩,q⟩
end
structure wy(h:Heap)(x dx C:Addr)(mA:Str→Option Value):Prop where
 obj:h.get? x=some (W.instObj C dx)
 ns:h.Ns1 dx mA
 ne:dx≠x
theorem qj{h:Heap}{dx:Addr}{mA:Str→Option Value}(n:h.Ns1 dx mA):∃od,h.get? dx=some od∧∀name,W.lookIn name od=some (mA name):=by
 obtain⟨o,es,ep,ho,hd,hk,_,hm⟩:=n;refine⟨o,ho,fun name=>?_⟩;have e:=hm name;unfold nsFind findBy at e;rw[← Array.find?_toList]at e;unfold W.lookIn;rw[hd];dsimp only
 split
 ·rename_i y q;rw[q]at e;exact congrArg some e
 ·rename_i q;rw[q]at e
  have a:es.toList.any (·.refKey)=false:=by rw[List.any_eq_false];intro y hy;obtain⟨z,t,Wu⟩:=hk y (Array.mem_toList_iff.mp hy);simp[DictEntry.refKey,Wu]
  have a':¬ es.toList.any (·.refKey)=true:=by rw[a];exact Bool.false_ne_true
  rw[if_neg a'];exact congrArg some e
theorem wy.look{h:Heap}{x dx C:Addr}{mA:Str→Option Value}(I:wy h x dx C mA):∃od,W.InstAt h x (W.instObj C dx) C (some od)∧∀name,W.lookIn name od=some (mA name):=
 let⟨od,ho,hl⟩:=qj I.ns
 ⟨od,⟨I.obj,rfl,rfl,ho⟩,hl⟩
section
variable{prog:Program}{w:World}{A:Around}{E:Value→Shared→Prop}{s:Shared}{K:W.Frag}{x dx C f:Addr}{mA:Str→Option Value}{name:Str}{v:Value}
theorem EN{expr:Bool}{Q:Value→Shared→Prop}(X:K.In s.heap)(I:wy s.heap x dx C mA)(hg:W.plainGet K C name=true)(hh:W.hasDictIn K C=true)
  (ha:W.findIn K (.ref C) name=some none) (hv:mA name=some v) (hv':W.handedIn v=true) (h:Q v { s with toks:=s.toks+1 }):
  wpAny (model prog w) A (getAttr (.ref x) name expr) Q E s:=by
 obtain⟨od,J,hl⟩:=I.look;exact W.get_value X J (W.plainGet_of hg).1 (W.findObj_own hh ha rfl (by rw[hl,hv])) hv' h
theorem Bz{pl:Sem Bool}{Q:Value×List Value→Shared→Prop}(X:K.In s.heap)(I:wy s.heap x dx C mA)(hg:W.plainGet K C name=true)
  (hf:W.findIn K (.ref C) name=some (some (.ref f))) (ht:W.isFn K (.ref f)=true) (hv:mA name=none) (h:Q (.ref f,[.ref x]) s):
  wpAny (model prog w) A (getMethod (.ref x) name pl) Q E s:=by
 obtain⟨od,J,hl⟩:=I.look;exact W.method_fn X J (W.plainGet_of hg).1 (W.plainGet_of hg).2 hf (beq_iff_eq.mp ht) (by show(W.lookIn name od).map (·.isSome)=some false;rw[hl,hv];rfl) h
theorem CP{ns:List Str}{Q:Unit→Shared→Prop}(X:K.In s.heap)(I:wy s.heap x dx C mA)
  (hs:W.findIn K (.ref C) "__setattr__"=some (some (.builtin "object.__setattr__"))) (hp:W.plainOver K C=true) (ht:W.takerIn K C name=some none) (hh:W.hasDictIn K C=true)
  (hw:PySem.Within mA ns) (hsz:ns.length≤sizeLine)
  (h:∀h',wy h' x dx C (fun y=>if y=name then some v else mA y)→Heap.SameBut dx s.heap h'→Q () { s with heap:=h',toks:=s.toks+2 }):
  wpAny (model prog w) A (setAttr (.ref x) name v) Q E s:=by
 obtain⟨od,J,hl⟩:=I.look;refine W.set_plain X J hs (W.osa_open (s:={ s with toks:=s.toks+1 }) (r:=none) X J hp ht fun b=>?_);obtain⟨cd,hc,hd'⟩:=W.any_some hh;have hx:s.heap.get? x=some ⟨.ref C,some dx,.plain, #[]⟩:=I.obj;refine wpAny_bind (wpAny_pure (wpAny_bind (wpAny_bind (wpAny_loadPart hx (wpAny_bind (W.Looks.here (s:={ s with toks:=s.toks+1 }) (W.looks_clsIn X hc) ?_))))));rw[hd'];refine wpAny_pure (a:=some dx) (wpAny_bind (wpAny_pure (wpAny_bind ?_)));refine wpAny_nsSet1 (s:={ s with toks:=s.toks+1 }) I.ns fun h' hn2 VL=>?_;obtain⟨oD,esD,epD,hoD,hdD,hcD⟩:=hn2.count (PySem.Within.cons name v hw);refine wpAny_bind (wpAny_lookBehind hoD (by rw[hdD];exact pastItsLine_dict (Nat.le_trans hcD (by rw[List.length_cons];omega))) ?_);exact wpAny_pure (h _ ⟨(VL.2 _ (Ne.symm I.ne)).trans I.obj,hn2,I.ne⟩ VL)
theorem Bc{R:Result→Shared→Prop}{vs:List Value}{kw:List (Str×Value)}(X:K.In s.heap)(hm:W.makesIn K C=true)
  (hi:W.findIn K (.ref C) "__init__"=some (some (.ref f))) (hf:W.typeIn K (.ref f)=some (.type "function"))
  (h:codeAny (model prog w) (A.under (.builtin "type.__call__" ⟨.ref C::vs,kw⟩)) (.call (.ref f) ⟨.ref (s.heap.objs.size+1)::vs,kw⟩) (W.InitBack (s.heap.objs.size+1) R)
   { s with heap:=(s.heap.push W.emptyDict).push (W.instObj C s.heap.objs.size) }):
  codeAny (model prog w) A (.call (.ref C) ⟨vs,kw⟩) R s:=by
 obtain⟨hh,g,d,t,os⟩:=s;exact W.make_core (W.makes_of X hm) (W.looks_findIn X hi) (fun self=>W.bind_fn X self hf) (.inl rfl) h
theorem yH{R:Result→Shared→Prop}(X:K.In s.heap)(hm:W.makesIn K C=true)
  (hi:W.findIn K (.ref C) "__init__"=some (some (.builtin "object.__init__")))
  (hb:∀self,W.Looks (model prog w) s.heap (bindSpecial (.builtin "object.__init__") self) (.builtin "object.__init__",[self]))
  (h:codeAny (model prog w) (A.under (.builtin "type.__call__" ⟨[.ref C],[]⟩)) (.call (.builtin "object.__init__") ⟨[.ref (s.heap.objs.size+1)],[]⟩) (W.InitBack (s.heap.objs.size+1) R)
   { s with heap:=(s.heap.push W.emptyDict).push (W.instObj C s.heap.objs.size) }):
  codeAny (model prog w) A (.call (.ref C) ⟨[],[]⟩) R s:=by
 obtain⟨hh,g,d,t,os⟩:=s;exact W.make_core (W.makes_of X hm) (W.looks_findIn X hi) hb (.inr ⟨rfl,rfl⟩) h
end
noncomputable def gz(f:Str)(v:V):List (Str×V)→List (Str×V)
 |[]=>[(f,v)]
 |(g,x)::r=>if g=f then(g,v)::r else(g,x)::gz f v r
theorem mz(f g:Str)(v:V):∀fs:List (Str×V),(gz f v fs).lookup g=if g=f then some v else fs.lookup g
 |[]=>by
  show List.lookup g [(f,v)]=_
  by_cases h:g=f
  ·have hb:(g==f)=true:=beq_iff_eq.mpr h;simp only[List.lookup,hb,if_pos h]
  ·have hb:(g==f)=false:=beq_eq_false_iff_ne.mpr h;simp only[List.lookup,hb,if_neg h]
 |(k,x)::r=>by
  have ih:=mz f g v r;rw[show gz f v ((k,x)::r)=(if k=f then(k,v)::r else(k,x)::gz f v r)from rfl]
  by_cases hk:k=f
  ·rw[if_pos hk]
   by_cases h:g=k
   ·have hb:(g==k)=true:=beq_iff_eq.mpr h;simp only[List.lookup,hb,if_pos (h.trans hk)]
   ·have hb:(g==k)=false:=beq_eq_false_iff_ne.mpr h;simp only[List.lookup,hb,if_neg (fun e:g=f=>h (e.trans hk.symm))]
  ·rw[if_neg hk]
   by_cases h:g=k
   ·have hb:(g==k)=true:=beq_iff_eq.mpr h;simp only[List.lookup,hb,if_neg (fun e:g=f=>hk (h.symm.trans e))]
   ·have hb:(g==k)=false:=beq_eq_false_iff_ne.mpr h;simp only[List.lookup,hb];exact ih
theorem mf(f:Str)(v:V):∀fs:List (Str×V),f∈(gz f v fs).map (·.1)∧∀g,g∈fs.map (·.1)→g∈(gz f v fs).map (·.1)
 |[]=>⟨by simp[gz],fun g h=>by simp at h⟩
 |(k,x)::r=>by
  obtain⟨i1,i2⟩:=mf f v r;rw[show gz f v ((k,x)::r)=(if k=f then(k,v)::r else(k,x)::gz f v r)from rfl]
  by_cases hk:k=f
  ·rw[if_pos hk];subst hk;exact⟨by simp,fun g h=>by simpa using h⟩
  ·rw[if_neg hk];refine⟨?_,fun g h=>?_⟩
   ·rw[List.map_cons];exact List.mem_cons_of_mem _ i1
   ·rw[List.map_cons]at h ⊢;rcases List.mem_cons.mp h with e|e
    ·exact List.mem_cons.mpr (.inl e)
    ·exact List.mem_cons_of_mem _ (i2 g e)
theorem mC(f:Str)(v:V):∀fs:List (Str×V),(gz f v fs).length≤fs.length+1
 |[]=>by simp[gz]
 |(k,x)::r=>by
  have ih:=mC f v r;rw[show gz f v ((k,x)::r)=(if k=f then(k,v)::r else(k,x)::gz f v r)from rfl]
  by_cases hk:k=f
  ·rw[if_pos hk,List.length_cons,List.length_cons];omega
  ·rw[if_neg hk,List.length_cons,List.length_cons];omega
theorem jX.some_of{v:V}{o:Option Value}(r:jX (some v) o):∃u,o=some u∧aQ v u:=by
 cases o with
 |none=>exact(show False from r).elim
 |some u=>exact⟨u,rfl,r⟩
theorem jX.none_of{o:Option Value}(r:jX none o):o=none:=by
 cases o with
 |none=>rfl
 |some u=>exact(show False from r).elim
theorem qB{v:V}{u:Value}(r:aQ v u):W.handedIn u=true:=by
 cases v with
 |non=>cases(show u=Value.none from r);rfl
 |bl b=>cases(show u=Value.bool b from r);rfl
 |int i=>obtain⟨t,e⟩:=(show∃t,u=Value.int i t from r);cases e;rfl
 |str x=>obtain⟨t,e⟩:=(show∃t,u=Value.str x t from r);cases e;rfl
 |YX b=>obtain⟨t,e⟩:=(show∃t,u=Value.bytes b t from r);cases e;rfl
 |flt b=>obtain⟨t,e⟩:=(show∃t,u=Value.float b t from r);cases e;rfl
 |ref a=>cases(show u=Value.ref a from r);rfl
 |ty n=>cases(show u=Value.type n from r);rfl
section
variable{P:Program}{w:World}{H H':Hp}{h h':Heap}{a C dx:Addr}{fs fs':List (Str×V)}
theorem rZ(hok:Ql P w H h)(e:H a=some (.ins C dx fs)):∃mA,wy h a dx C mA∧(∀f,jX (fs.lookup f) (mA f))∧PySem.Within mA (fs.map (·.1))∧fs.length≤1000∧H dx=some (.own a):=by
 obtain⟨d,z,ne,ob,mA,n,r,q⟩:=(show bq P w H h a (.ins C dx fs)from hok a _ e)
 exact⟨mA,⟨ob,n,ne⟩,r,q,z,d⟩
end
structure Cls(K:W.Frag)(C:Addr):Prop where
 pg:W.plainGet K C Str.empty=true
 hd:W.hasDictIn K C=true
 po:W.plainOver K C=true
 sa:W.findIn K (.ref C) "__setattr__"=some (some (.builtin "object.__setattr__"))
theorem Cls.get{K:W.Frag}{C:Addr}(c:Cls K C)(f:Str):W.plainGet K C f=true:=c.pg
def iP(K:W.Frag)(C:Addr)(f:Str):Prop:=W.findIn K (.ref C) f=some none
theorem iP.taker{K:W.Frag}{C:Addr}{f:Str}(n:iP K C f):W.takerIn K C f=some none:=by unfold W.takerIn;rw[show W.findIn K (.ref C) f=some none from n];rfl
structure eF(K:W.Frag)(C:Addr)(m:Str)(f:Addr):Prop where
 at_:W.findIn K (.ref C) m=some (some (.ref f))
 fn:W.isFn K (.ref f)=true
 kp:W.keepIn K (.ref f)=true
section
variable{X:Cx}{pins:List (Addr×Obj)}{σ:St}{H:Hp}{s:Shared}{a C dx:Addr}{fs:List (Str×V)}{f:Str}{v:V}{A:Around}{E:Value→Shared→Prop}
theorem we{b:Bool}{Q:Value→Shared→Prop}(I:Inv X pins σ H s)(e:H a=some (.ins C dx fs))(c:Cls X.K C)(n:iP X.K C f)(l:fs.lookup f=some v)
  (h:∀u s',Inv X pins σ H s'→aQ v u→Q u s'):wpAny (model X.prog X.w) A (getAttr (.ref a) f b) Q E s:=by
 obtain⟨mA,O,r,_,_,_⟩:=rZ I.hok e;obtain⟨u,hu,ru⟩:=jX.some_of (v:=v) (o:=mA f) (by rw[← l];exact r f);exact EN I.Qj O (c.get f) c.hd n hu (qB ru) (h u _ (I.tok _) ru)
theorem gn{m:Str}{g:Addr}{pl:Sem Bool}{Q:Value×List Value→Shared→Prop}(I:Inv X pins σ H s)(e:H a=some (.ins C dx fs))(c:Cls X.K C)(k:eF X.K C m g)(l:fs.lookup m=none)
  (h:Q (.ref g,[.ref a]) s):wpAny (model X.prog X.w) A (getMethod (.ref a) m pl) Q E s:=by
 obtain⟨mA,O,r,_,_,_⟩:=rZ I.hok e;have hn:mA m=none:=jX.none_of (by rw[← l];exact r m);exact Bz I.Qj O (c.get m) k.at_ k.fn hn h
theorem vp{y:V}{u:Value}{Q:Unit→Shared→Prop}(I:Inv X pins σ H s)(e:H a=some (.ins C dx fs))(c:Cls X.K C)(n:iP X.K C f)(hl:fs.length<1000)(ry:aQ y u)
  (h:∀s',Inv X pins σ (upd H a (.ins C dx (gz f y fs))) s'→Q () s'):wpAny (model X.prog X.w) A (setAttr (.ref a) f u) Q E s:=by
 obtain⟨mA,O,r,wi,_,ho⟩:=rZ I.hok e;have hz:(fs.map (·.1)).length≤sizeLine:=by rw[List.length_map,sizeLine_eq];omega
 refine CP I.Qj O c.sa c.po n.taker c.hd wi hz fun h' O' sb=>h _ ?_;have hd:∃o,h'.get? dx=some o:=let⟨o,_,_,e',_⟩:=O'.ns;⟨o,e'⟩;refine I.write (x:=a) (e:=dx) (by rw[e];exact True.intro) (.inr ho) (fun b q hb z=>(sb.2 b hb).trans z) hd ?_;refine⟨by rw[aj O.ne];exact ho,?_,O.ne,O'.obj,_,O'.ns,fun g=>?_,fun g hg=>?_⟩
 ·have:=mC f y fs;omega
 ·show jX ((gz f y fs).lookup g) (if g=f then some u else mA g);rw[mz]
  by_cases q:g=f
  ·rw[if_pos q,if_pos q];exact ry
  ·rw[if_neg q,if_neg q];exact r g
 ·by_cases q:g=f
  ·rw[q];exact(mf f y fs).1
  ·refine(mf f y fs).2 g (wi g fun z=>hg ?_);show(if g=f then some u else mA g)=none;rw[if_neg q];exact z
theorem Inv.made(I:Inv X pins σ H s):Inv X pins σ (upd (upd H s.heap.objs.size (.own (s.heap.objs.size+1))) (s.heap.objs.size+1) (.ins C s.heap.objs.size []))
  { s with heap:=(s.heap.push W.emptyDict).push (W.instObj C s.heap.objs.size) }:=by
 have e1:(s.heap.push W.emptyDict).get? s.heap.objs.size=some W.emptyDict:=Heap.get?_push_size s.heap rfl
 have e2:((s.heap.push W.emptyDict).push (W.instObj C s.heap.objs.size)).get? (s.heap.objs.size+1)=some (W.instObj C s.heap.objs.size):=by
  have:=Heap.get?_push_size (s.heap.push W.emptyDict) (o:=W.instObj C s.heap.objs.size) rfl
  rwa [Heap.size_push]at this
 have e3:(s.heap.push W.emptyDict).Ns s.heap.objs.size (fun _=>none):=⟨W.emptyDict, #[],_,e1,rfl,(fun e he=>absurd he (by simp)),fun _=>rfl⟩
 have I1:=I.laid (a:=s.heap.objs.size) (o:=.own (s.heap.objs.size+1)) (h':=s.heap.push W.emptyDict) (t':=s.toks) (fun b u q=>Heap.get?_push_of_some _ q) (abl _) ⟨_,e1⟩;refine I1.laid (a:=s.heap.objs.size+1) (o:=.ins C s.heap.objs.size []) (t':=s.toks) (fun b u q=>Heap.get?_push_of_some _ q) (Nat.le_of_eq (Heap.size_push _ _)) ?_;have ne:s.heap.objs.size≠s.heap.objs.size+1:=Nat.ne_of_lt (Nat.lt_succ_self _);refine⟨by rw[aj ne,aA],Nat.zero_le _,ne,e2,fun _=>none,(Heap.Ns1.of_empty e3).at fun o q=>Heap.get?_push_of_some _ q,fun _=>True.intro,fun y hy=>absurd rfl hy⟩
theorem xF{prog:Program}{w:World}{env:Env}{e:Expr}{f:Str}{pos:Pos}{s:Shared}{Q:Value→Shared→Prop}(hb:attributeBase e f env (eval e env)=eval e env)
  (h:wpAny (model prog w) A (eval e env) (fun o s₁=>wpAny (model prog w) A (getAttr o f true) Q E s₁) E s):wpAny (model prog w) A (eval (.Attribute e f pos) env) Q E s:=
 Attribute_any_ h (by rw[arm_eval_Attribute,hb])
end
def My(K:W.Frag)(ta:TE)(f:Str):TE:=fun σ H Q=>ta σ H fun x H1=>∃a C dx fs v,x=.ref a∧H1 a=some (.ins C dx fs)∧Cls K C∧iP K C f∧fs.lookup f=some v∧Q v H1
def Mz(K:W.Frag)(ta tv:TE)(f:Str):TS:=fun D σ H=>tv σ H fun y H1=>ta σ H1 fun x H2=>∃a C dx fs,x=.ref a∧H2 a=some (.ins C dx fs)∧Cls K C∧iP K C f∧fs.length<1000∧
 D.nx σ (upd H2 a (.ins C dx (gz f y fs)))
section
variable{X:Cx}{o e value:Expr}{f:Str}{pos pos' aaU:Pos}{ta tv:TE}
theorem HC(he:PE X e ta)(hb:attributeBase e f X.env (eval e X.env)=eval e X.env):PE X (.Attribute e f pos) (My X.K ta f):=by intro pins s σ H Q I h;refine xF hb (G4 (he pins s σ H _ I h) ?_);rintro u s1 ⟨x,H1,I1,rx,a,C,dx,fs,v,ex,ea,c,n,l,q⟩;subst ex;obtain rfl:u=Value.ref a:=rx;exact we I1 ea c n l fun u' s2 I2 ru=>⟨v,H1,I2,ru,q⟩
theorem Hl(ha:PE X o ta)(hv:PE X value tv)(hs:swapsWith value (some (.Attribute o f pos')) pos.line X.env=pure false):PS X (.Assign [.Attribute o f pos'] value pos) (Mz X.K ta tv f):=by intro pins s σ H D I h;refine plainObj_wpAny_Assign_Attribute (G4 (hv pins s σ H _ I h) fun u s1 ⟨y,H1,I1,ry,q⟩=>G4 (ha pins s1 σ H1 _ I1 q) ?_) hs;rintro ov s2 ⟨x,H2,I2,rx,a,C,dx,fs,ex,ea,c,n,l,q2⟩;subst ex;obtain rfl:ov=Value.ref a:=rx;exact vp I2 ea c n l ry fun s3 I3=>⟨σ,_,I3,q2⟩
end
structure aY(k:Nat)(A:Around):Prop where
 hd:A.handled=none
 dp:A.depth+3 * k+5<recursionLimit
 un:A.units+16 * k+200<cLine
 gd:A.guards=some []
theorem aY.mono{j k:Nat}{A:Around}(r:aY k A)(h:j≤k):aY j A:=⟨r.hd,by have:=r.dp;omega,by have:=r.un;omega,r.gd⟩
theorem aY.deeper{k:Nat}{A:Around}(r:aY (k+1) A)(env:Env):aY k (A.deeper env):=
 ⟨r.hd,by have:=r.dp;show A.depth+1+3 * k+5<_;omega,by have:=r.un;show A.units+3+16 * k+200<_;omega,r.gd⟩
theorem vP{A:Around}{C:Addr}{us:List Value}{kw:List (Str×Value)}:(A.under (.builtin "type.__call__" ⟨.ref C::us,kw⟩)).depth=A.depth+1:=by first|rfl|simp[Around.under,Code.weight,Code.isCreation,Code.isGuard,Code.isCaller,Code.frames,Code.isFrame,guardIds]
theorem vO{A:Around}{C:Addr}{us:List Value}{kw:List (Str×Value)}:(A.under (.builtin "type.__call__" ⟨.ref C::us,kw⟩)).units=A.units+1:=by first|rfl|simp[Around.under,Code.cUnits,Code.frames,Code.isFrame]
theorem aY.make{k:Nat}{A:Around}(r:aY (k+1) A)(C:Addr)(us:List Value)(kw:List (Str×Value)):aY k (A.under (.builtin "type.__call__" ⟨.ref C::us,kw⟩)):=
 ⟨r.hd,by have:=r.dp;rw[vP];omega,by have:=r.un;rw[vO];omega,by first|exact r.gd|(simp[Around.under,Code.guards,Code.isGuard,guardIds,pushGuards];exact r.gd)⟩
theorem aY.depth{k:Nat}{A:Around}(r:aY k A):A.depth<recursionLimit:=by have:=r.dp;omega
theorem aY.units{k:Nat}{A:Around}(r:aY k A):A.units+64<cLine:=by have:=r.un;omega
noncomputable def GH:TA:=fun _ H Q=>Q [] H
noncomputable def Kb(ta:TE)(tr:TA):TA:=fun σ H Q=>ta σ H fun x H1=>tr σ H1 fun xs H2=>Q (x::xs) H2
section
variable{X:Cx}{e:Expr}{es:List Expr}{te:TE}{t:TA}{pos:Pos}
theorem rR:PA X [] GH:=fun _ _ _ _ H Q I h=>Calls.spliced_nil ⟨[],H,I,.nil,h⟩
theorem nA(ha:PE X e te)(hr:PA X es t)(hs:sE0 X e es:=by rfl):PA X (e::es) (Kb te t):=by intro pos pins s σ H Q I h;rw[hs];show wpAny _ _ (spliced ((false,eval e X.env)::backTo pos (starEach es X.env))) _ _ s;refine Calls.spliced_cons (G4 (ha pins s σ H _ I h) ?_);rintro u s1 ⟨x,H1,I1,r1,q1⟩;exact G4 (hr pos pins s1 σ H1 _ I1 q1) (by rintro us s2 ⟨xs,H2,I2,r2,q2⟩;exact ⟨x::xs,H2,I2,.cons r1 r2,q2⟩)
def Mr(t:TA):TE:=fun σ H Q=>t σ H fun xs H1=>xs.length≤sizeLine∧∀p,H1 p=none→Q (.ref p) (upd H1 p (.tup xs))
def Mv(t:TA):TE:=fun σ H Q=>t σ H fun xs H1=>xs.length≤sizeLine∧∀p,H1 p=none→Q (.ref p) (upd H1 p (.lst xs))
theorem Hw{x1}(h:PA X es t):PE X (.Tuple es x1 pos) (Mr t):=by intro pins s σ H Q I hq;refine wpAny_Tuple_spliced (G4 (h pos pins s σ H _ I hq) fun us s1 ⟨xs,H1,I1,r,z,q⟩=>⟨by rw[← r.length];exact z,?_⟩);have hf:H1 s1.heap.objs.size=none:=I1.hok.fresh (abl _);refine⟨.ref s1.heap.objs.size,upd H1 s1.heap.objs.size (.tup xs),I1.laid (t':=s1.toks) (fun b u e=>Heap.get?_push_of_some _ e) (abl _) ?_,rfl,q _ hf⟩;exact⟨z,us,r,⟨_,Heap.get?_push_size _ rfl,rfl,_,rfl⟩⟩
theorem AN(h:PA X es t):PE X (.List es pos) (Mv t):=by intro pins s σ H Q I hq;refine wpAny_List_spliced (G4 (h pos pins s σ H _ I hq) fun us s1 ⟨xs,H1,I1,r,z,q⟩=>⟨by rw[← r.length];exact z,?_⟩);have hf:H1 s1.heap.objs.size=none:=I1.hok.fresh (abl _);refine⟨.ref s1.heap.objs.size,upd H1 s1.heap.objs.size (.lst xs),I1.laid (t':=s1.toks) (fun b u e=>Heap.get?_push_of_some _ e) (abl _) ?_,rfl,q _ hf⟩;exact⟨z,us,0,r,Heap.get?_push_size _ rfl⟩
end
abbrev Sp:=List V→Hp→VK→XK→Prop
abbrev Vq:=List Env→Hp→Shared→XK→Value→Shared→Prop
structure pJ(P:Program)(w:World)(K:W.Frag)(mg:Str→Option Value)(base:Heap)(A:Around)(outer:List Env)(s:Shared)(H:Hp):Prop where
 frames:A.frames=some outer
 mod:Mod K mg base
 bs:∀b o,base.get? b=some o→s.heap.get? b=some o∧H b=none
 Vz:base.objs.size≤s.heap.objs.size
 QJ:s.heap.FunFrames base outer
 V8:∀b∈frs outer,H b=none
 hok:Ql P w H s.heap
 bare:AllBare s.gens
def CE(outer:List Env)(P:Program)(w:World)(H:Hp)(s:Shared)(Q:VK)(u:Value)(s':Shared):Prop:=
 ∃v H',s'.os=s.os∧AllBare s'.gens∧Un (frs outer) [] H H' s.heap s'.heap∧Ql P w H' s'.heap∧aQ v u∧Q v H'
def CR(CX:Vq)(outer:List Env)(P:Program)(w:World)(H:Hp)(s:Shared)(Q:VK)(E:XK)(r:Result)(s':Shared):Prop:=
 match r with
 |.ok (.ret u)=>CE outer P w H s Q u s'
 |.ok _=>False
 |.error e=>CX outer H s E e s'
structure bK(P:Program)(w:World)(K:W.Frag)(mg:Str→Option Value)(base:Heap)(CX:Vq)(k:Nat)(f:Addr)(fd:FuncData)(ps:List Str)(sp:Sp):Prop where
 len:∀vs H Q E,sp vs H Q E→vs.length=ps.length
 run:∀(A:Around)(outer:List Env)(s:Shared)(H:Hp)(args:Args)(us:List Value)(vs:List V)(Q:VK)(E:XK),aY k A→pJ P w K mg base A outer s H→BindsTo s fd args (ps.zip us)→aL vs us→sp vs H Q E→
  codeAny (model P w) A (.call (.ref f) args) (CR CX outer P w H s Q E) s
theorem bK.imp{P:Program}{w:World}{K:W.Frag}{mg:Str→Option Value}{base:Heap}{CX:Vq}{k:Nat}{f:Addr}{fd:FuncData}{ps:List Str}{sp sp':Sp}(F:bK P w K mg base CX k f fd ps sp)
  (h:∀vs H Q E,sp' vs H Q E→sp vs H Q E):bK P w K mg base CX k f fd ps sp':=
 ⟨fun vs H Q E q=>F.len vs H Q E (h _ _ _ _ q),fun A outer s H args us vs Q E hr he hb hv hs=>F.run A outer s H args us vs Q E hr he hb hv (h _ _ _ _ hs)⟩
theorem pJ.make{P:Program}{w:World}{K:W.Frag}{mg:Str→Option Value}{base:Heap}{A:Around}{outer:List Env}{s:Shared}{H:Hp}(e:pJ P w K mg base A outer s H)(C:Addr)(us:List Value)(kw:List (Str×Value)):
  pJ P w K mg base (A.under (.builtin "type.__call__" ⟨.ref C::us,kw⟩)) outer s H:=⟨by first|exact e.frames|(simpa[Around.under,Code.envs,Code.isFrame,pushEnvs]using e.frames),e.mod,e.bs,e.Vz,e.QJ,e.V8,e.hok,e.bare⟩
section
variable{X:Cx}{pins:List (Addr×Obj)}{σ:St}{H:Hp}{s s':Shared}
theorem Inv.env0(I:Inv X pins σ H s):pJ X.prog X.w X.K X.mg X.base X.A X.stack s H:=
 ⟨I.ok.frames,I.ok.mod,I.bs,Nat.le_trans I.ok.Vz I.sz,I.stack,I.Ro,I.hok,I.bare⟩
theorem Inv.after{Q:VK}{u:Value}(I:Inv X pins σ H s)(h:CE X.stack X.prog X.w H s Q u s'):EP X pins σ Q u s':=by obtain⟨v,H',os,bare,un,hok,r,q⟩:=h;obtain⟨hh,g,d,t,os'⟩:=s';obtain rfl:os'=s.os:=os;exact⟨v,H',I.call (h':=hh) (g':=g) (d':=d) (t':=t) (ch:=[]) un hok bare (fun b z=>absurd z (by simp)),r,q⟩
end
noncomputable def Kc(sp:Sp)(Rj:List V)(E:XK)(t:TA):TE:=fun σ H Q=>t σ H fun vs H1=>sp (vs++Rj) H1 Q E
def wM(C:Addr)(m:Str)(sp:Sp)(Rj:List V)(E:XK)(ta:TE)(t:TA):TE:=fun σ H Q=>ta σ H fun x H1=>∃a dx fs,x=.ref a∧H1 a=some (.ins C dx fs)∧fs.lookup m=none∧
 t σ H1 fun vs H2=>sp (x::(vs++Rj)) H2 Q E
def FQ(C:Addr)(sp:Sp)(Rj:List V)(E:XK)(t:TA):TE:=fun σ H Q=>t σ H fun vs H1=>∀x dx,H1 x=none→H1 dx=none→dx≠x→
 sp (.ref x::(vs++Rj)) (upd (upd H1 dx (.own x)) x (.ins C dx [])) (fun v H2=>v=.non∧Q (.ref x) H2) E
def bC(K:W.Frag)(fd:FuncData)(ps:List Str)(ds:List Value):Prop:=
 ∀(s:Shared)(us:List Value),K.In s.heap→(us++ds).length=ps.length→BindsTo s fd ⟨us,[]⟩ (ps.zip (us++ds))
theorem bC.all{K:W.Frag}{fd:FuncData}{ps:List Str}(h:∀us:List Value,us.length=ps.length→bindArgs fd ⟨us,[]⟩=pure (ps.zip us)):bC K fd ps []:=fun s us _ hl=>by rw[List.append_nil]at hl ⊢;exact .of_eq (h us hl)
def cg(CX:Vq)(X:Cx)(E:XK):Prop:=∀(pins:List (Addr×Obj))(σ:St)(H:Hp)(s:Shared)(e:Value)(s':Shared),Inv X pins σ H s→CX X.stack H s E e s'→X.xe e s'
section
variable{X:Cx}{CX:Vq}{k:Nat}{f C:Addr}{fd:FuncData}{ps:List Str}{sp:Sp}{Rj:List V}{ds:List Value}{E:XK}{x m:Str}{p pos apos:Pos}{e o:Expr}{es:List Expr}{ta:TE}{t:TA}
theorem rB{pins:List (Addr×Obj)}{σ:St}{H:Hp}{s:Shared}{Q:VK}{us:List Value}{vs:List V}(F:bK X.prog X.w X.K X.mg X.base CX k f fd ps sp)(hr:aY k X.A)(hb:bC X.K fd ps ds)(hd:aL Rj ds)(hx:cg CX X E)
  (I:Inv X pins σ H s) (r:aL vs us) (h:sp (vs++Rj) H Q E):wpAny (model X.prog X.w) X.A (call (.ref f) us) (EP X pins σ Q) X.xe s:=by
 have r2:aL (vs++Rj) (us++ds):=r.append hd;have hl:(us++ds).length=ps.length:=by rw[← r2.length];exact F.len _ _ _ _ h
 refine wpAny_call (codeAny_mono (F.run X.A X.stack s H ⟨us,[]⟩ (us++ds) (vs++Rj) Q E hr I.env0 (hb s us I.Qj hl) r2 h) fun r s' hq=>?_)
 cases r with
 |error e=>exact hx pins σ H s e s' I hq
 |ok fl=>
  cases fl with
  |ret u=>exact I.after hq
  |next=>exact False.elim hq
  |brk=>exact False.elim hq
  |cont=>exact False.elim hq
theorem rQ(F:bK X.prog X.w X.K X.mg X.base CX k f fd ps sp)(hr:aY k X.A)(hg:Gl X x)(hm:X.mg x=some (.ref f))(hk:W.keepIn X.K (.ref f)=true)(hb:bC X.K fd ps ds)(hd:aL Rj ds)(hx:cg CX X E)
  (ha:PA X (e::es) t) (PJ:nD0 x:=by decide)(he:sE0 X e es:=by rfl) (J3:sP0 X es pos:=by rfl):
  PE X (.Call (.Name x p) (e::es) [] pos) (Kc sp Rj E t):=by
 intro pins s σ H Q I h;refine wpAny_Call_Name_kw (jJ I hg hm ?_ PJ);refine W.callWith_K (h₀:=X.base) I.ok.mod.Sd hk (G4 (ha pos pins s σ H _ I h) fun us s1 ⟨vs,H1,I1,r,q⟩=>⟨I1.Qj,?_⟩) he J3;exact rB F hr hb hd hx I1 r q
theorem DC{pl:Sem Bool}(he:PE X o ta)(c:Cls X.K C)(hm:eF X.K C m f)(F:bK X.prog X.w X.K X.mg X.base CX k f fd ps sp)(hr:aY k X.A)(hb:bC X.K fd ps ds)(hd:aL Rj ds)(hx:cg CX X E)(ha:PA X (e::es) t)
  (Rh:sE0 X e es:=by rfl) (J3:sP0 X es pos:=by rfl)
  (ht:eval (.Call (.Attribute o m apos) (e::es) [] pos) X.env=(do
   let ov ← eval o X.env
   standAt apos.atName
   let(f,first) ← holding [ov] (getMethod ov m pl)
   callWith pos f first (backTo pos (starEach (e::es) X.env)) (backToKw pos (keywordEach [] X.env))):=by rfl):
  PE X (.Call (.Attribute o m apos) (e::es) [] pos) (wM C m sp Rj E ta t):=by
 intro pins s σ H Q I h;refine W.methodCall_KW (pl:=pl) (G4 (he pins s σ H _ I h) ?_) ht;rintro u s1 ⟨x,H1,I1,rx,a,dx,fs,ex,ea,l,q⟩;subst ex;obtain rfl:u=Value.ref a:=rx;refine gn I1 ea c hm l ?_;refine W.callWith_K (first:=[.ref a]) (h₀:=X.base) I.ok.mod.Sd hm.kp (G4 (ha pos pins s1 σ H1 _ I1 q) fun us s2 ⟨vs,H2,I2,r,q2⟩=>⟨I2.Qj,?_⟩) Rh J3;exact rB (us:=.ref a::us) (vs:=.ref a::vs) F hr hb hd hx I2 (.cons rfl r) q2
theorem AL{pl:Sem Bool}(he:PE X o ta)(c:Cls X.K C)(hm:eF X.K C m f)(F:bK X.prog X.w X.K X.mg X.base CX k f fd ps sp)(hr:aY k X.A)(hb:bC X.K fd ps ds)(hd:aL Rj ds)(hx:cg CX X E)
  (ht:eval (.Call (.Attribute o m apos) [] [] pos) X.env=(do
   let ov ← eval o X.env
   standAt apos.atName
   let(f,first) ← holding [ov] (getMethod ov m pl)
   callWith pos f first (backTo pos (starEach [] X.env)) (backToKw pos (keywordEach [] X.env))):=by rfl):
  PE X (.Call (.Attribute o m apos) [] [] pos) (wM C m sp Rj E ta GH):=by
 intro pins s σ H Q I h;refine W.methodCall_KW (pl:=pl) (G4 (he pins s σ H _ I h) ?_) ht;rintro u s1 ⟨x,H1,I1,rx,a,dx,fs,ex,ea,l,q⟩;subst ex;obtain rfl:u=Value.ref a:=rx;refine gn I1 ea c hm l ?_;exact W.callWith_K0 (first:=[.ref a]) I1.Qj hm.kp (rB (us:=[.ref a]) (vs:=[.ref a]) F hr hb hd hx I1 (.cons rfl .nil) q)
structure Mk(K:W.Frag)(C f:Addr):Prop where
 makes:W.makesIn K C=true
 init:W.findIn K (.ref C) "__init__"=some (some (.ref f))
 fn:W.isFn K (.ref f)=true
 kp:W.keepIn K (.ref C)=true
theorem tz{pins:List (Addr×Obj)}{σ:St}{H:Hp}{s:Shared}{Q:VK}{us:List Value}{vs:List V}(M:Mk X.K C f)(F:bK X.prog X.w X.K X.mg X.base CX k f fd ps sp)(hr:aY (k+1) X.A)(hb:bC X.K fd ps ds)(hd:aL Rj ds)
  (hx:cg CX X E) (I:Inv X pins σ H s) (r:aL vs us)
  (h:∀x dx,H x=none→H dx=none→dx≠x→sp (.ref x::(vs++Rj)) (upd (upd H dx (.own x)) x (.ins C dx [])) (fun v H2=>v=.non∧Q (.ref x) H2) E):
  wpAny (model X.prog X.w) X.A (call (.ref C) us) (EP X pins σ Q) X.xe s:=by
 have hq:=h (s.heap.objs.size+1) s.heap.objs.size (I.hok.fresh (Nat.le_succ _)) (I.hok.fresh (abl _)) (Nat.ne_of_lt (Nat.lt_succ_self _));have I2:=Inv.made (C:=C) I;have r2:aL (V.ref (s.heap.objs.size+1)::(vs++Rj)) (Value.ref (s.heap.objs.size+1)::(us++ds)):=.cons rfl (r.append hd)
 have hl:(Value.ref (s.heap.objs.size+1)::us++ds).length=ps.length:=by have e:=r2.length;rw[F.len _ _ _ _ hq]at e;exact e.symm
 refine wpAny_call (Bc (f:=f) I.Qj M.makes M.init (beq_iff_eq.mp M.fn) (codeAny_mono (F.run _ X.stack _ _ ⟨Value.ref (s.heap.objs.size+1)::us,[]⟩ (Value.ref (s.heap.objs.size+1)::(us++ds)) _ _ E (hr.make C us [])
  (I2.env0.make C us []) (hb _ (Value.ref (s.heap.objs.size+1)::us) I2.Qj hl) r2 hq) fun r s' Zy=>?_))
 cases r with
 |error e=>exact hx pins σ _ _ e s' I2 Zy
 |ok fl=>
  cases fl with
  |ret u=>obtain⟨v,H',I3,rv,ev,q3⟩:=I2.after Zy;subst ev;exact⟨rv,⟨V.ref (s.heap.objs.size+1),H',I3,rfl,q3⟩⟩
  |next=>exact False.elim Zy
  |brk=>exact False.elim Zy
  |cont=>exact False.elim Zy
theorem DE(M:Mk X.K C f)(F:bK X.prog X.w X.K X.mg X.base CX k f fd ps sp)(hr:aY (k+1) X.A)(hg:Gl X x)(hm:X.mg x=some (.ref C))(hb:bC X.K fd ps ds)(hd:aL Rj ds)(hx:cg CX X E)
  (ha:PA X (e::es) t) (PJ:nD0 x:=by decide)(he:sE0 X e es:=by rfl) (J3:sP0 X es pos:=by rfl):
  PE X (.Call (.Name x p) (e::es) [] pos) (FQ C sp Rj E t):=by
 intro pins s σ H Q I h;refine wpAny_Call_Name_kw (jJ I hg hm ?_ PJ);refine W.callWith_K (h₀:=X.base) I.ok.mod.Sd M.kp (G4 (ha pos pins s σ H _ I h) fun us s1 ⟨vs,H1,I1,r,q⟩=>⟨I1.Qj,?_⟩) he J3;exact tz M F hr hb hd hx I1 r q
theorem AM(M:Mk X.K C f)(F:bK X.prog X.w X.K X.mg X.base CX k f fd ps sp)(hr:aY (k+1) X.A)(hg:Gl X x)(hm:X.mg x=some (.ref C))(hb:bC X.K fd ps ds)(hd:aL Rj ds)(hx:cg CX X E)
  (PJ:nD0 x:=by decide):PE X (.Call (.Name x p) [] [] pos) (FQ C sp Rj E GH):=by
 intro pins s σ H Q I h;refine wpAny_Call_Name_kw (jJ I hg hm ?_ PJ);exact W.callWith_K0 I.Qj M.kp (tz (us:=[]) M F hr hb hd hx I .nil h)
end
def PK(X:Cx)(kws:List Keyword)(t:TA):Prop:=
 ∀(pos:Pos)(pins:List (Addr×Obj))(s:Shared)(σ:St)(H:Hp)(Q:List V→Hp→Prop),Inv X pins σ H s→t σ H Q→wpAny (model X.prog X.w) X.A (evalAll ((backToKw pos (keywordEach kws X.env)).map (·.2))) (AP X pins σ Q) X.xe s
structure dQ(N P:List Str)(sc:Scope):Prop where
 kind:sc.kind=.function
 co:sc.isCoroutine=false
 gen:sc.isGenerator=false
 nd:N.Nodup
 pre:N.take P.length=P
 par:∀x∈P,sc.names.lookup x=some .local∨sc.names.lookup x=some .cell
 X8:∀y∈sc.names,y.2≠.free
theorem qP{kindOf:Str→Option NameKind}{x:Str}:∀{binds:List (Str×Value)}{m:Str→Option Value},(∀v,(x,v)∉binds)→bindL kindOf binds m x=m x
 |[],_,_=>rfl
 |(n,v)::r,m,h=>by
  unfold bindL;rw[qP fun w hw=>h w (List.mem_cons_of_mem _ hw)]
  split
  ·have:x≠n:=by rintro rfl;exact h v List.mem_cons_self
   simp[this]
  ·rfl
theorem qR{kindOf:Str→Option NameKind}{x:Str}:∀{binds:List (Str×Value)}{m:Str→Option Value},(∀v,(x,v)∉binds)→bindC kindOf binds m x=m x
 |[],_,_=>rfl
 |(n,v)::r,m,h=>by
  unfold bindC;rw[qR fun w hw=>h w (List.mem_cons_of_mem _ hw)]
  split
  ·rfl
  ·have:x≠n:=by rintro rfl;exact h v List.mem_cons_self
   simp[this]
theorem qQ{kindOf:Str→Option NameKind}{x:Str}{v:Value}:∀{P:List Str}{vs:List Value}{i:Nat}{m:Str→Option Value},P.Nodup→P[i]? =some x→vs[i]? =some v→kindOf x=some .local→
  bindL kindOf (P.zip vs) m x=some v
 |[],_,_,_,_,h,_,_=>by simp at h
 |_::_,[],_,_,_,_,h,_=>by simp at h
 |p::P,w::vs,0,m,nd,h1,h2,hk=>by simp at h1 h2;subst h1;subst h2;show bindL kindOf ((p,w)::P.zip vs) m p=_;unfold bindL;rw[qP fun v hv=>(List.nodup_cons.mp nd).1 (List.of_mem_zip hv).1,if_pos hk];simp
 |p::P,w::vs,i+1,m,nd,h1,h2,hk=>by show bindL kindOf ((p,w)::P.zip vs) m x=_;unfold bindL;exact qQ (i:=i) (List.nodup_cons.mp nd).2 (by simpa using h1) (by simpa using h2) hk
theorem qS{kindOf:Str→Option NameKind}{x:Str}{v:Value}:∀{P:List Str}{vs:List Value}{i:Nat}{m:Str→Option Value},P.Nodup→P[i]? =some x→vs[i]? =some v→kindOf x≠some .local→
  bindC kindOf (P.zip vs) m x=some v
 |[],_,_,_,_,h,_,_=>by simp at h
 |_::_,[],_,_,_,_,h,_=>by simp at h
 |p::P,w::vs,0,m,nd,h1,h2,hk=>by simp at h1 h2;subst h1;subst h2;show bindC kindOf ((p,w)::P.zip vs) m p=_;unfold bindC;rw[qR fun v hv=>(List.nodup_cons.mp nd).1 (List.of_mem_zip hv).1,if_neg hk];simp
 |p::P,w::vs,i+1,m,nd,h1,h2,hk=>by show bindC kindOf ((p,w)::P.zip vs) m x=_;unfold bindC;exact qS (i:=i) (List.nodup_cons.mp nd).2 (by simpa using h1) (by simpa using h2) hk
noncomputable def fL(N:List Str)(vs:List V):St:=vs.map some++List.replicate (N.length - vs.length) none
noncomputable def iW(CX:Vq)(P:Program)(w:World)(K:W.Frag)(mg:Str→Option Value)(base:Heap)(N:List Str)(qual:Str)(scope:Scope)(f:Addr)(cd:Value)(A:Around)(outer:List Env)(s:Shared)(H:Hp)(E:XK):Cx where
 prog:=P
 w:=w
 K:=K
 mg:=mg
 base:=base
 A:=A.deeper (envOfC qual scope s.heap.objs.size f cd)
 N:=N
 s₀:=s
 H₀:=H
 env:=envOfC qual scope s.heap.objs.size f cd
 outer:=outer
 stack:=envOfC qual scope s.heap.objs.size f cd::outer
 ex:=[]
 calm:=true
 fn:=fun _=>true
 pn:=[]
 xe:=fun e s'=>wpAny (model P w) (A.deeper (envOfC qual scope s.heap.objs.size f cd)) (leaving (envOfC qual scope s.heap.objs.size f cd) e) (fun _ TQ=>CX outer H s E e TQ) (fun e' TQ=>CX outer H s E e' TQ) s'
theorem uQ{sc:Scope}{n:Nat}{x:Str}(h:sc.names.lookup x=some .cell):∃c,(cellsFrom n sc.names []).lookup x=some c:=by have q:=W.cellsFrom_some sc.names n [] (.inl h);exact Option.isSome_iff_exists.mp q
theorem qx{CX:Vq}{P:Program}{w:World}{K:W.Frag}{mg:Str→Option Value}{base:Heap}{N ps:List Str}{qual:Str}{scope:Scope}{f:Addr}{cd:Value}{A:Around}{outer:List Env}{s s1:Shared}{H:Hp}{E:XK}{us:List Value}{vs:List V}
  (S:dQ N ps scope) (hd:A.handled=none) (e0:pJ P w K mg base A outer s H) (hl:vs.length=ps.length) (r:aL vs us)
  (x:InCallC s s.heap.objs.size (bindL (envOfC qual scope s.heap.objs.size f cd).kindOf (ps.zip us) fun _=>none) (cellsFrom (s.heap.objs.size+1) scope.names []) (bindC (envOfC qual scope s.heap.objs.size f cd).kindOf (ps.zip us) fun _=>none) s1):
  Inv (iW CX P w K mg base N qual scope f cd A outer s H E) [] (fL N vs) H s1:=by
 have J3:ps.length≤N.length:=by have:=congrArg List.length S.pre;rw[List.length_take]at this;omega
 obtain⟨h1,tk,rfl,hk⟩:=x.done;have Zq:∀b:Addr,b∉(iW CX P w K mg base N qual scope f cd A outer s H E).ex:=fun b z=>absurd (show b∈([]:List Addr)from z) (by simp)
 refine⟨⟨e0.mod,S.kind,rfl,rfl,abl _,fun y z c h1 h2=>?_,fun y hy=>?_,fun y c _ h=>?_,fun _=>hd,Around.frames_deeper e0.frames,.inr ⟨rfl,rfl⟩,fun b z=>absurd z (Zq b),e0.bs,e0.Vz,fun b _ _=>Zq b,fun b z=>absurd z (Zq b),e0.QJ,e0.V8⟩,
  rfl,e0.bare,Un.kept hk,⟨_,x.toInCall.ns,fun i y v h1 h2 h3=>?_⟩,fun y c h=>⟨_,x.cell y c h⟩,e0.hok.fresh (abl _),fun y c h=>?_,fun p hp=>absurd (show p∈([]:List (Addr×Obj))from hp) (by simp),e0.hok.kept hk,?_⟩
 ·exact name_of_addr x.apart (PySem.mem_of_lookup h1) (PySem.mem_of_lookup h2)
 ·have hy:scope.names.lookup y=some .cell∨scope.names.lookup y=some .free:=hy;rcases hy with hy|hy
  ·exact uQ hy
  ·exact absurd rfl (S.X8 _ (PySem.mem_of_lookup hy))
 ·exact Nat.le_of_lt (x.above y c (PySem.mem_of_lookup h))
 ·have hi:i<vs.length:=by
   unfold fL at h2
   by_cases hi:i<vs.length
   ·exact hi
   ·rw[List.getElem?_append_right (by simpa using hi)]at h2;rw[List.getElem?_replicate]at h2
    split at h2<;>cases h2
  have ha:vs[i]? =some v:=by
   unfold fL at h2;rw[List.getElem?_append_left (by simpa using hi),List.getElem?_map]at h2
   cases e:vs[i]? with
   |none=>rw[e]at h2;cases h2
   |some a=>rw[e]at h2;cases h2;rfl
  obtain⟨u,hu,rv⟩:=r.get ha
  have hp:ps[i]? =some y:=by rw[← S.pre,List.getElem?_take_of_lt (by omega)];exact h1
  have ndP:ps.Nodup:=by rw[← S.pre];exact S.nd.sublist (List.take_sublist _ _)
  refine⟨u,rv,?_⟩;rcases S.par y (List.mem_of_getElem? hp)with k|k
  ·exact .inl ⟨k,qQ ndP hp hu k⟩
  ·obtain⟨c,e⟩:=uQ (n:=s.heap.objs.size+1) k;refine .inr ⟨.inl k,c,e,?_⟩;have q:=x.cell y c e;rw[qS ndP hp hu (by show scope.names.lookup y≠_;rw[k];decide)]at q;exact q
 ·exact e0.hok.fresh (Nat.le_of_lt (x.above y c (PySem.mem_of_lookup h)))
 ·unfold fL;show _=N.length;rw[List.length_append,List.length_map,List.length_replicate];omega
theorem xu{CX:Vq}{P:Program}{w:World}{K:W.Frag}{mg:Str→Option Value}{base:Heap}{k:Nat}{f:Addr}{name qual:Str}{params:Arguments}{body:List Stmt}{scope:Scope}{dV kV doc pm E_ ct oc:Value}{an od:Option Addr}
  {S6:Array (Option Value)} {N ps:List Str} {sp:Sp} (lk:K.lookup f=some ⟨oc,od,.func (W.fnOf name qual params body scope dV kV doc pm an E_ ct),S6⟩) (S8:W.codeIn K E_ qual=true) (S:dQ N ps scope)
  (len:∀vs H Q E,sp vs H Q E→vs.length=ps.length)
  (Uz:∀(A:Around)(outer:List Env)(s:Shared)(H:Hp)(vs:List V)(Q:VK)(E:XK),aY k (A.deeper (envOfC qual scope s.heap.objs.size f E_))→sp vs H Q E→
   ∃t,Te (iW CX P w K mg base N qual scope f E_ A outer s H E) body t∧t { nx:=fun _ H'=>Q .non H',rt:=Q } (fL N vs) H):
  bK P w K mg base CX (k+1) f (W.fnOf name qual params body scope dV kV doc pm an E_ ct) ps sp:=by
 refine⟨len,fun A outer s H args us vs Q E hr e0 hb r Wo=>?_⟩;have hl:=len _ _ _ _ Wo;have KX:K.In s.heap:=e0.mod.Sd.keeps fun b o e=>(e0.bs b o e).1;have lim:s.heap.NoLimit:=e0.mod.nolimit.keeps fun b o e=>(e0.bs b o e).1
 have Wt:∀y∈ps.zip us,scope.names.lookup y.1=some .local∨(scope.names.lookup y.1=some .cell∧((cellsFrom (s.heap.objs.size+1) scope.names []).lookup y.1).isSome=true):=fun⟨n,v⟩ hy=>by
  rcases S.par n (List.of_mem_zip hy).1 with q|q
  ·exact .inl q
  ·exact .inr ⟨q,W.cellsFrom_some _ _ _ (.inl q)⟩
 refine codeAny_call_function hr.depth (KX _ _ lk) rfl S.co S.gen rfl (W.codeRec_of KX S8) (hb _ _ _ _ ?_);refine wpAny_newFunctionEnv_cells S.kind Wt fun env he s1 x=>?_;subst he;refine⟨lim.keeps x.toInCall.keep,codeAny_func ?_⟩;obtain⟨t,ht,hq⟩:=Uz A outer s H vs Q E (hr.deeper _) Wo;have I:Inv (iW CX P w K mg base N qual scope f E_ A outer s H E) [] (fL N vs) H s1:=qx S hr.hd e0 hl r x;refine wpAny_mono (ht [] s1 (fL N vs) H _ I hq) (fun fl s' hs=>?_) fun e s' hs=>hs
 have fin:∀{σ':St}{H':Hp}{v:V}{u:Value},Inv (iW CX P w K mg base N qual scope f E_ A outer s H E) [] σ' H' s'→aQ v u→Q v H'→CE outer P w H s Q u s':=
  fun{σ' H' v u} J rv q=>⟨v,H',J.os,J.bare,J.base,J.hok,rv,q⟩
 cases fl with
 |ret u=>obtain⟨v,σ',H',J,rv,q⟩:=hs;exact fin J rv q
 |next=>obtain⟨σ',H',J,q⟩:=hs;exact fin (v:=V.non) (u:=Value.none) J rfl q
 |brk=>obtain⟨_,_,_,q⟩:=hs;exact False.elim q
 |cont=>obtain⟨_,_,_,q⟩:=hs;exact False.elim q
section
variable{X:Cx}{x:Str}{p pos:Pos}{e:Expr}{es:List Expr}{t:TA}{id T:String}{r:List V→Hp→VK→Prop}
noncomputable def tCB(r:List V→Hp→VK→Prop)(t:TA):TE:=fun σ H Q=>t σ H fun vs H1=>r vs H1 Q
theorem AR(hc:dD X (.builtin id) r)(hg:Gl X x)(hm:X.mg x=none)(hv:bootBuiltins x=some (.builtin id))(ha:PA X (e::es) t)(hn:x≠"__name__":=by decide)(PJ:nD0 x:=by decide)
  (he:sE0 X e es:=by rfl) (J3:sP0 X es pos:=by rfl):PE X (.Call (.Name x p) (e::es) [] pos) (tCB r t):=by
 intro pins s σ H Q I h;refine wpAny_Call_Name_kw (gm I hg hm hv ?_ hn PJ);exact PyProof.Rows.callWith_builtin1 (G4 (ha pos pins s σ H _ I h) (by rintro us s1 ⟨vs,H1,I1,r1,q1⟩;exact hc pins s1 σ H1 vs us Q I1 r1 q1)) he J3
theorem qc(hc:dD X (.type T) r)(hg:Gl X x)(hm:X.mg x=none)(hv:bootBuiltins x=some (.type T))(ha:PA X (e::es) t)(hn:x≠"__name__":=by decide)(PJ:nD0 x:=by decide)
  (he:sE0 X e es:=by rfl) (J3:sP0 X es pos:=by rfl):PE X (.Call (.Name x p) (e::es) [] pos) (tCB r t):=by
 intro pins s σ H Q I h;refine wpAny_Call_Name_kw (gm I hg hm hv ?_ hn PJ);exact PyProof.Rows.callWith_type1 (G4 (ha pos pins s σ H _ I h) (by rintro us s1 ⟨vs,H1,I1,r1,q1⟩;exact hc pins s1 σ H1 vs us Q I1 r1 q1)) he J3
end
end L2
namespace HT
open PySem PyProof.Rows
section
variable{prog:Program}{w:World}{A:Around}{E:Value→Shared→Prop}{s:Shared}
theorem Xk{t b:Addr}{vs ws:List Value}{Q:Value→Shared→Prop}(ht:IsTup s.heap t vs.toArray)(hb:IsTup s.heap b ws.toArray)(hv:vs≠ [])
  (h1:ws= []→Q (.ref t) s) (h2:ws≠ []→Q (.ref s.heap.objs.size) { s with heap:=s.heap.push { cls:=.type "tuple",data:=.seq (vs++ws).toArray } })
  (hsz:vs.length+ws.length≤sizeLine):wpAny (model prog w) A (binaryOp .Add (.ref t) (.ref b)) Q E s:=by
 obtain⟨⟨cls,dd,data,sl⟩,ho,hc,n,hd⟩:=id ht;obtain⟨⟨afJ,dd2,data2,sl2⟩,ho2,hc2,n2,hd2⟩:=id hb;simp only at hc hd hc2 hd2;subst hc hd hc2 hd2;have e:vs.toArray++ws.toArray=(vs++ws).toArray:=by simp
 by_cases hw:ws= []
 ·exact concat_meets ⟨_,ho,rfl⟩ ⟨_,ho2,rfl⟩ noFill_tuple_add seq_tuple_add PySem.F.slot_tuple_add PySem.F.entry_tuple_add (PySem.F.args_tuple_add_2 _ _)
   (tuple_addW1 t b vs.toArray ws.toArray n n2 dd dd2 sl sl2 (by simpa using hv) (by simp[hw])) ⟨ho,ho2,h1 hw⟩
 ·refine concat_meets ⟨_,ho,rfl⟩ ⟨_,ho2,rfl⟩ noFill_tuple_add seq_tuple_add PySem.F.slot_tuple_add PySem.F.entry_tuple_add (PySem.F.args_tuple_add_2 _ _)
   (tuple_addW2 t b vs.toArray ws.toArray n n2 dd dd2 sl sl2 (by simpa using hv) (by simpa using hw) (by rw[List.size_toArray,List.size_toArray];exact hsz)) ⟨ho,ho2,?_⟩
  rw[e];exact h2 hw
noncomputable def J4(n d:Nat):Option Int→Nat
 |none=>d
 |some v=>if v<0 then(v+(n:Int)).toNat else min v.toNat n
theorem Wd(n d:Nat):J4 n d none=d:=rfl
theorem Vs(n d k:Nat):J4 n d (some (k:Int))=min k n:=by show(if(k:Int)<0 then((k:Int)+(n:Int)).toNat else min (k:Int).toNat n)=min k n;rw[if_neg (by omega),Int.toNat_natCast]
theorem Vb(n d:Nat)(hd:d≤n)(o:Option Int):J4 n d o≤n:=by
 cases o with
 |none=>exact hd
 |some v=>
  show(if v<0 then(v+(n:Int)).toNat else min v.toNat n)≤n
  by_cases hv:v<0
  ·rw[if_pos hv];omega
  ·rw[if_neg hv];exact Nat.min_le_right _ _
theorem xD(v:Int)(n d:Nat):(if v<0 then max (v+(n:Int)) 0 else min v (n:Int))=((J4 n d (some v):Nat):Int):=by
 show(if v<0 then max (v+(n:Int)) 0 else min v (n:Int))=(((if v<0 then(v+(n:Int)).toNat else min v.toNat n):Nat):Int)
 by_cases hv:v<0
 ·simp only[if_pos hv];omega
 ·simp only[if_neg hv];omega
theorem wx(lo hi:Option Int)(n:Nat):Builtin.Slice.sliceAdjust lo hi 1 (n:Int)=(((J4 n 0 lo:Nat):Int),((J4 n n hi:Nat):Int)):=by
 have h1:¬ ((1:Int)<0):=by omega
 unfold Builtin.Slice.sliceAdjust;simp only[h1,if_false];refine Prod.ext ?_ ?_
 ·cases lo with
  |none=>rfl
  |some v=>exact xD v n 0
 ·cases hi with
  |none=>rfl
  |some v=>exact xD v n n
theorem vD(i j:Nat):Builtin.Slice.slicePlaces (i:Int) (j:Int) 1=j - i:=by
 unfold Builtin.Slice.slicePlaces;have h1:(1:Int)>0:=by omega
 simp only[h1,if_true,Int.ediv_one]
 split<;>omega
theorem nR{v:Value}{o:Option Int}{Q:Option Int→Shared→Prop}(p:IsPart v o)(h:Q o s):wpAny (model prog w) A (Builtin.Slice.slicePartIndex v) Q E s:=by
 cases p with
 |none=>exact slicePart_none h
 |int i t=>exact slicePart_int h
theorem gU{sl:Addr}{vl vu:Value}{lo hi:Option Int}{n:Nat}{Q:Int×Int×Nat→Shared→Prop}(hs:s.heap.IsSliceOf sl vl vu .none)(pl:IsPart vl lo)(pu:IsPart vu hi)
  (h:Q (((J4 n 0 lo:Nat):Int),1,J4 n n hi - J4 n 0 lo) s):wpAny (model prog w) A (Builtin.Slice.sliceApplied (.ref sl) (pure (n:Int))) Q E s:=by
 obtain⟨os,Xf,hcs,ZP⟩:=id hs;unfold Builtin.Slice.sliceApplied Builtin.Slice.sliceFields;refine wpAny_bind (wpAny_bind (wpAny_field Xf ZP (x:=vl) rfl (wpAny_bind (wpAny_field Xf ZP (x:=vu) rfl (wpAny_bind (wpAny_field Xf ZP (x:=.none) rfl (wpAny_pure ?_)))))));refine wpAny_bind (slicePart_none ?_);show wpAny _ _ (if((1:Int)==0)=true then _ else _) _ _ s;rw[if_neg (by decide)];refine wpAny_bind (nR pl (wpAny_bind (nR pu (wpAny_bind (wpAny_pure ?_)))));show wpAny _ _ (match Builtin.Slice.sliceAdjust lo hi 1 (n:Int)with|(lo,hi)=>pure (lo,(1:Int),Builtin.Slice.slicePlaces lo hi 1)) _ _ s;rw[wx lo hi n];show wpAny _ _ (pure (((J4 n 0 lo:Nat):Int),(1:Int),Builtin.Slice.slicePlaces ((J4 n 0 lo:Nat):Int) ((J4 n n hi:Nat):Int) 1)) _ _ s;rw[vD];exact wpAny_pure h
theorem AA(xs:Array Value)(i k:Nat):((List.range k).filterMap fun(m:Nat)=>xs[((i:Int)+(m:Int) * 1).toNat]?).toArray=((xs.toList.drop i).take k).toArray:=by
 have e:(fun(m:Nat)=>xs[((i:Int)+(m:Int) * 1).toNat]?)=fun m=>xs[i+m]? :=by
  funext m
  have:((i:Int)+(m:Int) * 1).toNat=i+m:=by omega
  rw[this]
 rw[e];have:=pick_run xs i k;rw[List.filterMap_map]at this;have e2:((fun x=>xs[x]?)∘fun x=>i+x)=fun m=>xs[i+m]? :=rfl;rw[e2]at this;rw[this]
theorem Rv{t sl:Addr}{items:Array Value}{vl vu:Value}{lo hi:Option Int}{Q:Value→Shared→Prop}(ht:IsTup s.heap t items)(hs:s.heap.IsSliceOf sl vl vu .none)(pl:IsPart vl lo)(pu:IsPart vu hi)
  (hw:¬ (J4 items.size 0 lo=0∧J4 items.size items.size hi=items.size))
  (h:Q (.ref s.heap.objs.size) { s with heap:=s.heap.push { cls:=.type "tuple",data:=.seq ((items.toList.drop (J4 items.size 0 lo)).take (J4 items.size items.size hi - J4 items.size 0 lo)).toArray } })
  (hsz:items.size≤sizeLine):wpAny (model prog w) A (getItem (.ref t) (.ref sl)) Q E s:=by
 have Vw:sizeOk (.seq ((items.toList.drop (J4 items.size 0 lo)).take (J4 items.size items.size hi - J4 items.size 0 lo)).toArray):=by show((items.toList.drop (J4 items.size 0 lo)).take (J4 items.size items.size hi - J4 items.size 0 lo)).toArray.size≤sizeLine;rw[List.size_toArray,List.length_take,List.length_drop,Array.length_toList];omega
 have hj:J4 items.size items.size hi≤items.size:=Vb _ _ (Nat.le_refl _) hi;obtain⟨os,Xf,hcs,ZP⟩:=id hs;have hTs:s.TypeIs (.ref sl) "slice":=⟨os,Xf,hcs⟩
 unfold getItem
 try with_reducible refine wpAny_holding ?_
 first|refine wpAny_bind (wpAny_pure ?_)|skip
 refine wpAny_bind (wpAny_sequenceKey ht.typeIs (by decide) ?_)
 refine wpAny_bind (wpAny_callSpecial?_slot (name:=Str.ofString "__getitem__") ht.typeIs PyProof.Rows.slot_tuple_getitem
  (wpAny_call_entry PyProof.Rows.slot_tuple_getitem ht.typeIs entry_tuple_getitem ?_ (args_tuple_getitem _ _)))
 show wpAny _ _ (Builtin.Tuple.tupleItemsOf (.ref t) >>= _) _ _ s;refine wpAny_bind (tupleItemsOf_ ht ?_);refine wpAny_bind (wpAny_typeOf hTs ?_);rw[if_pos (by decide)];refine wpAny_bind (gU hs pl pu ?_)
 have hno:¬ ((((J4 items.size 0 lo:Nat):Int)==0&&(1:Int)==1&&(J4 items.size items.size hi - J4 items.size 0 lo)==items.size)=true):=by intro q;rw[Bool.and_eq_true,Bool.and_eq_true]at q;have q1:((J4 items.size 0 lo:Nat):Int)=0:=eq_of_beq q.1.1;have q2:J4 items.size items.size hi - J4 items.size 0 lo=items.size:=eq_of_beq q.2;exact hw ⟨by omega,by omega⟩
 show wpAny _ _ (if(((J4 items.size 0 lo:Nat):Int)==0&&(1:Int)==1&&(J4 items.size items.size hi - J4 items.size 0 lo)==items.size)=true then _ else _) _ _ s;rw[if_neg hno,AA]
 first
  |exact wpAny_bind (m:=Builtin.Tuple.tupleExact _) (wpAny_newObj_type (wpAny_pure ⟨_,rfl,wpAny_pure h⟩) Vw)
  |exact wpAny_bind (m:=Builtin.Tuple.tupleExact _) (wpAny_newObj_type (wpAny_bind (wpAny_pure (wpAny_pure ⟨_,rfl,wpAny_pure h⟩))) Vw)
  |exact wpAny_bind (wpAny_bind (m:=Builtin.Tuple.tupleExact _) (wpAny_newObj_type (wpAny_pure (wpAny_pure ⟨_,rfl,wpAny_pure h⟩)) Vw))
  |exact wpAny_bind (wpAny_bind (m:=Builtin.Tuple.tupleExact _) (wpAny_newObj_type (wpAny_pure ⟨_,rfl,wpAny_pure h⟩) Vw))
end
end HT
namespace L2
open PySem PySem.Spec PyProof.Rows
abbrev TO:=St→Hp→(Option Int→Hp→Prop)→Prop
def PO(X:Cx)(e:Option Expr)(t:TO):Prop:=
 ∀(pins:List (Addr×Obj))(s:Shared)(σ:St)(H:Hp)(Q:Option Int→Hp→Prop),Inv X pins σ H s→t σ H Q→
  wpAny (model X.prog X.w) X.A (evalPart e X.env) (fun u s'=>∃o H',Inv X pins σ H' s'∧IsPart u o∧Q o H') X.xe s
noncomputable def CJ:TO:=fun _ H Q=>Q none H
noncomputable def JX(t:TE):TO:=fun σ H Q=>t σ H fun x H1=>∃i,x=.int i∧Q (some i) H1
section
variable{X:Cx}{e:Expr}{te:TE}{lo hi:Option Expr}{tl th:TO}{pos p2:Pos}
theorem Dv:PO X none CJ:=by intro pins s σ H Q I h;rw[evalPart_none];exact wpAny_pure ⟨none,H,I,.none,h⟩
theorem Du(h:PE X e te):PO X (some e) (JX te):=by intro pins s σ H Q I hw;rw[evalPart_some];refine G4 (h pins s σ H _ I hw) ?_;rintro u s1 ⟨x,H1,I1,r1,q1⟩;obtain⟨i,rfl,q⟩:=q1;obtain⟨t,rfl⟩:=r1;exact⟨some i,H1,I1,.int i t,q⟩
def V9(X:Cx)(r:V→Option Int→Option Int→Hp→VK→Prop):Prop:=
 ∀(pins:List (Addr×Obj))(s:Shared)(σ:St)(H:Hp)(x:V)(v vl vu:Value)(lo hi:Option Int)(sl:Addr)(Q:VK),Inv X pins σ H s→aQ x v→s.heap.IsSliceOf sl vl vu .none→IsPart vl lo→IsPart vu hi→r x lo hi H Q→
  ∃T id,typeLookup (.type T) "__getitem__"=pure (some (.builtin id))∧s.TypeIs v T∧wpAny (model X.prog X.w) X.A (getItem v (.ref sl)) (EP X pins σ Q) X.xe s
theorem V9.or{r r':V→Option Int→Option Int→Hp→VK→Prop}(h:V9 X r)(h':V9 X r'):V9 X (fun x lo hi H Q=>r x lo hi H Q∨r' x lo hi H Q):=by
 intro pins s σ H x v vl vu lo hi sl Q I rx hs pl pu q;rcases q with q|q
 ·exact h pins s σ H x v vl vu lo hi sl Q I rx hs pl pu q
 ·exact h' pins s σ H x v vl vu lo hi sl Q I rx hs pl pu q
noncomputable def tSl(r:V→Option Int→Option Int→Hp→VK→Prop)(te:TE)(tl th:TO):TE:=fun σ H Q=>te σ H fun x H1=>tl σ H1 fun l H2=>th σ H2 fun u H3=>r x l u H3 Q
theorem AH{r:V→Option Int→Option Int→Hp→VK→Prop}(hr:V9 X r)(he:PE X e te)(hl:PO X lo tl)(hu:PO X hi th):PE X (.Subscript e (.Slice lo hi none p2) pos) (tSl r te tl th):=by intro pins s σ H Q I h;refine Subscript_ (G4 (he pins s σ H _ I h) ?_);rintro v s1 ⟨x,H1,I1,r1,q1⟩;refine wpAny_Slice (G4 (hl pins s1 σ H1 _ I1 q1) fun vl s2 ⟨l,H2,I2,pl,q2⟩=>G4 (hu pins s2 σ H2 _ I2 q2) ?_);rintro vu s3 ⟨u,H3,I3,pu,q3⟩;rw[evalPart_none];refine wpAny_pure ?_;have I4:Inv X pins σ H3 { s3 with heap:=s3.heap.push { cls:=.type "slice",data:=.fields #[vl,vu,.none] } }:=I3.kept (t':=s3.toks) fun b ob q=>Heap.get?_push_of_some _ q;obtain⟨T,id,hT,ht,hg⟩:=hr pins { s3 with heap:=s3.heap.push { cls:=.type "slice",data:=.fields #[vl,vu,.none] } } σ H3 x v vl vu l u s3.heap.objs.size Q I4 r1 (Heap.IsSliceOf.new ..) pl pu q3;show wpAny (model X.prog X.w) X.A (subscriptTail e (.Slice lo hi none p2) v (.ref s3.heap.objs.size)) (EP X pins σ Q) X.xe { s3 with heap:=s3.heap.push { cls:=.type "slice",data:=.fields #[vl,vu,.none] } };exact tail_any (ops:=[.ref s3.heap.objs.size,v]) ht hT hg (by with_unfolding_all rfl)
def uO(xs:List V)(lo hi:Option Int):List V:=(xs.drop (HT.J4 xs.length 0 lo)).take (HT.J4 xs.length xs.length hi - HT.J4 xs.length 0 lo)
theorem mE(xs:List V)(lo hi:Option Int):(uO xs lo hi).length≤xs.length:=by unfold uO;rw[List.length_take,List.length_drop];omega
def Kx(K:W.Frag):V→Option Int→Option Int→Hp→VK→Prop:=fun x lo hi H Q=>∃a xs,x=.ref a∧PN K H a xs∧
 ¬ (HT.J4 xs.length 0 lo=0∧HT.J4 xs.length xs.length hi=xs.length)∧∀p,H p=none→Q (.ref p) (upd H p (.tup (uO xs lo hi)))
theorem GP:V9 X (Kx X.K):=by
 intro pins s σ H x v vl vu lo hi sl Q I rx hs pl pu h;obtain⟨a,xs,rfl,hx,hw,q⟩:=h
 cases rx
 obtain⟨its,r,ht,hz⟩:=I.tuple hx;have K3:its.toArray.size=xs.length:=by rw[List.size_toArray];exact r.length.symm
 refine⟨"tuple",_,PyProof.Rows.slot_tuple_getitem.lookup,ht.typeIs,?_⟩;refine HT.Rv ht hs pl pu (by rw[K3];exact hw) ?_ (by rw[K3];exact hz);rw[K3];refine⟨.ref s.heap.objs.size,_,I.laid (t':=s.toks) (o:=.tup (uO xs lo hi)) (fun b ob q=>Heap.get?_push_of_some _ q) (abl _) ?_,rfl,q _ (I.hok.fresh (abl _))⟩;exact⟨Nat.le_trans (mE xs lo hi) hz,_,(r.drop (HT.J4 xs.length 0 lo)).take (HT.J4 xs.length xs.length hi - HT.J4 xs.length 0 lo),IsTup.new _ _⟩
def FZ(K:W.Frag):R2:=fun x y H Q=>∃a b xs ys,x=.ref a∧y=.ref b∧PN K H a xs∧PN K H b ys∧xs≠ []∧xs.length+ys.length≤sizeLine∧
 (ys= []→Q (.ref a) H)∧(ys≠ []→∀p,H p=none→Q (.ref p) (upd H p (.tup (xs++ys))))
theorem aL.Ss{xs:List V}{us:List Value}(r:aL xs us):us= []↔xs= []:=by
 cases r with
 |nil=>simp
 |cons _ _=>simp
theorem DS:Pa X (binaryOp .Add) (FZ X.K):=by
 intro pins s σ H x y v u Q I rx ry h;obtain⟨a,b,xs,ys,rfl,rfl,ha,hb,hx,hz,q1,q2⟩:=h
 cases rx
 cases ry
 obtain⟨its,r1,p1,_⟩:=I.tuple ha;obtain⟨Xd,r2,p2,_⟩:=I.tuple hb;refine HT.Xk p1 p2 (fun z=>hx (r1.Ss.mp z)) (fun z=>⟨.ref a,H,I,rfl,q1 (r2.Ss.mp z)⟩) (fun z=>?_) (by rw[← r1.length,← r2.length];exact hz);refine⟨.ref s.heap.objs.size,_,I.laid (t':=s.toks) (o:=.tup (xs++ys)) (fun b ob q=>Heap.get?_push_of_some _ q) (abl _) ?_,rfl,q2 (fun w=>z (r2.Ss.mpr w)) _ (I.hok.fresh (abl _))⟩;exact⟨by rw[List.length_append];exact hz,_,r1.append r2,IsTup.new _ _⟩
end
noncomputable def Wn(n:Nat)(i:Int):Option Nat:=if 0≤i then(if i<n then some i.toNat else none)else if -(n:Int)≤i then some (i+n).toNat else none
def QW{α:Type}(xs:List α)(i:Int):Option α:=(Wn xs.length i).bind fun j=>xs[j]?
theorem xn{n:Nat}{i:Int}{j:Nat}(h:Wn n i=some j):seqIndex? i n=some j∧j<n∧ -(n:Int)≤i∧i<n:=by
 unfold Wn at h
 by_cases h0:0≤i
 ·rw[if_pos h0]at h
  by_cases h1:i<n
  ·rw[if_pos h1]at h;have e:i.toNat=j:=Option.some.inj h;exact⟨by rw[seqIndex_of h0 h1,e],by omega,by omega,h1⟩
  ·rw[if_neg h1]at h;cases h
 ·rw[if_neg h0]at h
  by_cases h1: -(n:Int)≤i
  ·rw[if_pos h1]at h;have e:(i+n).toNat=j:=Option.some.inj h;exact⟨by rw[seqIndex_neg (by omega) h1,e],by omega,h1,by omega⟩
  ·rw[if_neg h1]at h;cases h
theorem sI{α:Type}{xs:List α}{i:Int}{v:α}(h:QW xs i=some v):∃j,seqIndex? i xs.length=some j∧xs[j]? =some v∧j<xs.length∧ -(xs.length:Int)≤i∧i<xs.length:=by
 unfold QW at h
 cases e:Wn xs.length i with
 |none=>rw[e]at h;cases h
 |some j=>rw[e]at h;obtain⟨h1,h2,h3,h4⟩:=xn e;exact⟨j,h1,h,h2,h3,h4⟩
theorem Ft{α:Type}{xs:List α}{j:Nat}{v:α}(h:xs[j]? =some v):QW xs (j:Int)=some v:=by
 have hj:j<xs.length:=(List.getElem?_eq_some_iff.mp h).1
 have e:Wn xs.length (j:Int)=some j:=by unfold Wn;rw[if_pos (by omega),if_pos (by omega)];simp
 unfold QW;rw[e];exact h
def FC(b:Expr):Prop:=∀o i,subscripted b false o i=operate [o,i] (getItem o i)
def WK(X:Cx)(r:R2):Prop:=
 ∀(value slice:Expr)(pins:List (Addr×Obj))(s:Shared)(σ:St)(H:Hp)(x y:V)(v u:Value)(Q:VK),Inv X pins σ H s→aQ x v→aQ y u→r x y H Q→
  subscripted slice false v u=operate [v,u] (getItem v u)→wpAny (model X.prog X.w) X.A (subscriptTail value slice v u) (EP X pins σ Q) X.xe s
def MtR(X:Cx)(id:String)(r:V→List V→Hp→VK→Prop):Prop:=
 ∀(pins:List (Addr×Obj))(s:Shared)(σ:St)(H:Hp)(x:V)(xs:List V)(v:Value)(us:List Value)(Q:VK),Inv X pins σ H s→aQ x v→aL xs us→r x xs H Q→
  wpAny (model X.prog X.w) X.A (call (.builtin id) (v::us)) (EP X pins σ Q) X.xe s
section
variable{X:Cx}{a b:Expr}{ta tb:TE}{pos:Pos}
theorem WK.or{r r':R2}(h:WK X r)(h':WK X r'):WK X (fun x y H Q=>r x y H Q∨r' x y H Q):=by
 intro value slice pins s σ H x y v u Q I rx ry q hs;rcases q with q|q
 ·exact h value slice pins s σ H x y v u Q I rx ry q hs
 ·exact h' value slice pins s σ H x y v u Q I rx ry q hs
theorem KN{r:R2}(hr:WK X r)(ha:PE X a ta)(hb:PE X b tb)(hs:FC b):PE X (.Subscript a b pos) (Y9 r ta tb):=by intro pins s σ H Q I h;exact Subscript_ (Jy ha hb I h fun v u s2 x y H2 I2 rx ry q=>hr a b pins s2 σ H2 x y v u Q I2 rx ry q (hs _ _))
def KG(K:W.Frag):R2:=fun x y H Q=>∃p xs i v,x=.ref p∧y=.int i∧O4 K H p xs∧QW xs i=some v∧Q v H
def KD(K:W.Frag):R2:=fun x y H Q=>∃p xs i v,x=.ref p∧y=.int i∧PN K H p xs∧QW xs i=some v∧Q v H
def KF:R2:=fun x y H Q=>∃z i c,x=.str z∧y=.int i∧z.length≤sizeLine∧QW z.cps.toList i=some c∧Q (.str ⟨#[c]⟩) H
theorem ED:WK X (KG X.K):=by
 intro value slice pins s σ H x y v u Q I rx ry h hs;obtain⟨p,xs,i,z,rfl,rfl,hq,he,q⟩:=h
 cases rx
 obtain⟨t,rfl⟩:=ry;obtain⟨its,r,pl,hz⟩:=I.list hq;obtain⟨j,h1,h2,h3,h4,h5⟩:=sI he;obtain⟨w,ew,Tg⟩:=r.get h2;have hl:=r.length;have hn:=ku;have fin:EP X pins σ Q w s:=⟨z,H,I,Tg,q⟩
 by_cases h0:0≤i
 ·have hj:i.toNat=j:=by rw[seqIndex_of h0 h5]at h1;exact Option.some.inj h1
  exact item_listR pl.isList h0 (by omega) (by rw[hj];simpa using ew) fin hs
 ·have hj:(i+(its.toArray.size:Int)).toNat=j:=by rw[seqIndex_neg (by omega) h4]at h1;rw[List.size_toArray,← hl];exact Option.some.inj h1
  exact subscriptTail_builtinR (x:=w) pl.isList.typeIs slot_list_getitem.lookup
   (wpAny_getItem_list_neg (Q:=fun r s'=>r=w∧EP X pins σ Q r s') pl.isList (by omega) (by rw[List.size_toArray]<;>omega) (by omega) (by rw[hj];simpa using ew) ⟨rfl,fin⟩) hs
theorem IN:WK X (KD X.K):=by
 intro value slice pins s σ H x y v u Q I rx ry h hs;obtain⟨p,xs,i,z,rfl,rfl,hq,he,q⟩:=h
 cases rx
 obtain⟨t,rfl⟩:=ry;obtain⟨its,r,pl,hz⟩:=I.tuple hq;obtain⟨j,h1,h2,h3,h4,h5⟩:=sI he;obtain⟨w,ew,Tg⟩:=r.get h2;have hl:=r.length;have hn:=ku;have fin:EP X pins σ Q w s:=⟨z,H,I,Tg,q⟩
 exact subscriptTail_builtinR (x:=w) pl.typeIs slot_tuple_getitem.lookup
  (getItem_tuple (j:=j) (Q:=fun r s'=>r=w∧EP X pins σ Q r s') pl (by omega) (by omega) (by rw[List.size_toArray,← hl];exact h1) (by simpa using ew) ⟨rfl,fin⟩) hs
theorem IP:WK X KF:=by
 intro value slice pins s σ H x y v u Q I rx ry h hs;obtain⟨z,i,c,rfl,rfl,hz,he,q⟩:=h;obtain⟨t,rfl⟩:=rx;obtain⟨t',rfl⟩:=ry;obtain⟨j,h1,h2,h3,h4,h5⟩:=sI he;have hl:z.cps.toList.length=z.length:=by simp[Str.length]
 rw[hl]at h1 h4 h5;have hn:=ku
 exact tail_any (typeIs_str s z t) slot_str_getitem.lookup (getItem_str (c:=c) (by have e1:decide (i< -(2 ^ 63:Int))=false:=decide_eq_false (by omega);have e2:decide (i≥2 ^ 63)=false:=decide_eq_false (by omega);rw[e1,e2,Bool.or_false]) (by rw[h1];simpa using h2) ⟨.str ⟨#[c]⟩,H,I.tok _,⟨_,rfl⟩,q⟩) hs
def rIx(K:W.Frag):R2:=fun x y H Q=>KG K x y H Q∨KD K x y H Q∨KF x y H Q
theorem IQ:WK X (rIx X.K):=ED.or (IN.or IP)
theorem vN(its:List Value)(n j:Nat)(u:Value):Obj.mapSeq (·.setIfInBounds j u) { cls:=.type "list",data:=.seq its.toArray n }={ cls:=.type "list",data:=.seq (its.set j u).toArray n }:=by simp[Obj.mapSeq]
theorem Inv.lst{pins:List (Addr×Obj)}{σ:St}{H:Hp}{s:Shared}{p:Addr}{xs:List V}(I:Inv X pins σ H s)(h:H p=some (.lst xs)):
  ∃(its:List Value)(n:Nat),aL xs its∧s.heap.get? p=some { cls:=.type "list",data:=.seq its.toArray n }∧xs.length≤sizeLine:=by
 obtain⟨z,its,n,r,e⟩:=I.hok p _ h;exact⟨its,n,r,e,z⟩
theorem Inv.Yg{pins:List (Addr×Obj)}{σ:St}{H:Hp}{s:Shared}{p:Addr}{xs ys:List V}{its R6:List Value}{n n':Nat}{f:Obj→Obj}(I:Inv X pins σ H s)(h:H p=some (.lst xs))
  (ho:s.heap.get? p=some { cls:=.type "list",data:=.seq its.toArray n }) (hf:f { cls:=.type "list",data:=.seq its.toArray n }={ cls:=.type "list",data:=.seq R6.toArray n' }) (r:aL ys R6) (hz:ys.length≤sizeLine) (t:Nat):
  Inv X pins σ (upd H p (.lst ys)) { s with heap:=s.heap.update p f,toks:=t }:=by
 have e:(s.heap.update p f).get? p=some { cls:=.type "list",data:=.seq R6.toArray n' }:=by rw[Heap.get?_update_self f ho (by rw[hf]<;>rfl),hf]
 refine I.write (x:=p) (e:=p) (by rw[h];trivial) (.inl rfl) (fun b u hb q=>(Heap.get?_update_other _ _ (Ne.symm hb)).trans q) ⟨_,e⟩ ?_;exact⟨hz,R6,n',r,e⟩
def KB:V→V→V→Hp→(Hp→Prop)→Prop:=fun o i v H Q=>∃p xs k j,o=.ref p∧i=.int k∧H p=some (.lst xs)∧Wn xs.length k=some j∧Q (upd H p (.lst (xs.set j v)))
theorem zI:Mg X KB:=by
 intro pins s σ H o i v ov iv u Q I ro ri rv h;obtain⟨p,xs,k,j,rfl,rfl,hp,hj,q⟩:=h
 cases ro
 obtain⟨t,rfl⟩:=ri;obtain⟨its,n,r,ho,hz⟩:=I.lst hp;obtain⟨h1,h2,h3,h4⟩:=xn hj;have hl:=r.length;have hn:=ku
 have I':Inv X pins σ (upd H p (.lst (xs.set j v))) { s with heap:=s.heap.update p (Obj.mapSeq (·.setIfInBounds j u)) }:=
  I.Yg hp ho (vN its n j u) (r.set rv j) (by rw[List.length_set];exact hz) s.toks
 by_cases h0:0≤k
 ·have hk:k.toNat=j:=by rw[seqIndex_of h0 h4]at h1;exact Option.some.inj h1
  exact W.ki_setAt ho h0 (by omega) (by rw[List.size_toArray,← hl];exact h4) (by rw[hk];exact⟨_,I',q⟩)
 ·have hk:(k+(its.toArray.size:Int)).toNat=j:=by rw[seqIndex_neg (by omega) h3]at h1;rw[List.size_toArray,← hl];exact Option.some.inj h1
  exact W.ki_setBack ho (by omega) (by rw[List.size_toArray,← hl];exact h3) (by omega) (by rw[hk];exact⟨_,I',q⟩)
theorem qZ(lo hi:Option Int)(n:Nat):(sliceBounds lo hi none n).1=((HT.J4 n 0 lo:Nat):Int)∧(sliceBounds lo hi none n).2.1=((HT.J4 n n hi:Nat):Int)∧(sliceBounds lo hi none n).2.2=1:=by
 refine⟨?_,?_,rfl⟩
 ·cases lo with
  |none=>simp[sliceBounds,HT.J4]
  |some i=>
   simp only[sliceBounds,HT.J4,Option.getD_none,show(1:Int)>0 by decide,if_true]
   by_cases h:i<0
   ·simp only[h,if_true]<;>omega
   ·simp only[h,if_false]<;>omega
 ·cases hi with
  |none=>simp[sliceBounds,HT.J4]
  |some i=>
   simp only[sliceBounds,HT.J4,Option.getD_none,show(1:Int)>0 by decide,if_true]
   by_cases h:i<0
   ·simp only[h,if_true]<;>omega
   ·simp only[h,if_false]<;>omega
theorem oT(its:List Value)(lo hi:Option Int):slicePick its.toArray lo hi none=((its.drop (HT.J4 its.length 0 lo)).take (HT.J4 its.length its.length hi - HT.J4 its.length 0 lo)).toArray:=by obtain⟨h1,h2,h3⟩:=qZ lo hi its.toArray.size;unfold slicePick;rw[h1,h2,h3];simp only[sliceRange_one,pick_run,List.size_toArray]<;>rfl
def Kz(K:W.Frag):V→Option Int→Option Int→Hp→VK→Prop:=fun x lo hi H Q=>∃a xs,x=.ref a∧O4 K H a xs∧∀p,H p=none→Q (.ref p) (upd H p (.lst (uO xs lo hi)))
theorem CO:V9 X (Kz X.K):=by
 intro pins s σ H x v vl vu lo hi sl Q I rx hs pl pu h;obtain⟨a,xs,rfl,hx,q⟩:=h
 cases rx
 obtain⟨its,r,ht,hz⟩:=I.list hx;have K3:=r.length;refine⟨"list",_,slot_list_getitem.lookup,ht.isList.typeIs,?_⟩;refine wpAny_getItem_list_slice ht.isList hs pl pu .none (by simp) ?_ (by rw[List.size_toArray]<;>omega);rw[oT,← K3];refine⟨.ref s.heap.objs.size,_,I.laid (t':=s.toks) (o:=.lst (uO xs lo hi)) (fun b ob q=>Heap.get?_push_of_some _ q) (abl _) ?_,rfl,q _ (I.hok.fresh (abl _))⟩;exact⟨Nat.le_trans (mE xs lo hi) hz,_,0,(r.drop (HT.J4 xs.length 0 lo)).take (HT.J4 xs.length xs.length hi - HT.J4 xs.length 0 lo),Heap.get?_push_size _ rfl⟩
theorem sE:dD X (.builtin "len") (fun xs H Q=>∃p ys,xs= [.ref p]∧(O4 X.K H p ys∨PN X.K H p ys)∧Q (.int ys.length) H):=by
 intro pins s σ H xs us Q I r h;obtain⟨p,ys,rfl,hq,q⟩:=h;obtain⟨u,rfl,rx⟩:=kB r
 cases rx
 have hn:=ku;rcases hq with hq|hq
 ·obtain⟨its,r',pl,hz⟩:=I.list hq;have K3:=r'.length;exact Calls.call_len_list pl.isList (by simp only[List.size_toArray]<;>omega) ⟨.int ys.length,H,I.tok _,⟨s.toks+1,by rw[List.size_toArray,K3]⟩,q⟩
 ·obtain⟨its,r',pl,hz⟩:=I.tuple hq;have K3:=r'.length;exact len_tuple pl (by simp only[List.size_toArray]<;>omega) ⟨.int ys.length,H,I.tok _,⟨s.toks+1,by rw[List.size_toArray,K3]⟩,q⟩
theorem sD:dD X (.builtin "len") (fun xs H Q=>∃z,xs= [.str z]∧z.length≤sizeLine∧Q (.int z.length) H):=by intro pins s σ H xs us Q I r h;obtain⟨z,rfl,hz,q⟩:=h;obtain⟨u,rfl,t,rfl⟩:=kB r;have hn:=ku;exact len_str (by omega) ⟨.int z.length,H,I.tok _,⟨_,rfl⟩,q⟩
theorem sC:dD X (.type "list") (fun xs H Q=>∃p ys,xs= [.ref p]∧(O4 X.K H p ys∨PN X.K H p ys)∧∀l,H l=none→Q (.ref l) (upd H l (.lst ys))):=by
 intro pins s σ H xs us Q I r h;obtain⟨p,ys,rfl,hq,q⟩:=h;obtain⟨u,rfl,rx⟩:=kB r
 cases rx
 have fin:∀(its:List Value),aL ys its→ys.length≤sizeLine→∀(h':Heap)(c':Nat),(∀b o',s.heap.get? b=some o'→h'.get? b=some o')→
   h'.get? s.heap.objs.size=some { cls:=.type "list",dict:=none,data:=.seq its.toArray c',slots:= #[] }→EP X pins σ Q (.ref s.heap.objs.size) { s with heap:=h' }:=fun its r' hz h' c' kp e=>
  ⟨.ref s.heap.objs.size,_,I.laid (t':=s.toks) kp (abl _) (show bq X.prog X.w _ h' _ (.lst ys)from⟨hz,its,c',r',e⟩),rfl,q _ (I.hok.fresh (abl _))⟩
 rcases hq with hq|hq
 ·obtain⟨its,r',pl,hz⟩:=I.list hq;have K3:=r'.length;obtain⟨o,ho,hc,n,hd⟩:=pl.isList;exact call_list_seq p (.inl rfl) ho hc hd (fun h' c' kp e=>fin its r' hz h' c' kp e) (by simp only[List.size_toArray]<;>omega)
 ·obtain⟨its,r',pl,hz⟩:=I.tuple hq;have K3:=r'.length;obtain⟨o,ho,hc,n,hd⟩:=pl;exact call_list_seq p (.inr rfl) ho hc hd (fun h' c' kp e=>fin its r' hz h' c' kp e) (by simp only[List.size_toArray]<;>omega)
theorem pC:dD X (.type "tuple") (fun xs H Q=>∃p ys,xs= [.ref p]∧((O4 X.K H p ys∧∀l,H l=none→Q (.ref l) (upd H l (.tup ys)))∨(PN X.K H p ys∧Q (.ref p) H))):=by
 intro pins s σ H xs us Q I r h;obtain⟨p,ys,rfl,h⟩:=h;obtain⟨u,rfl,rx⟩:=kB r
 cases rx
 rcases h with⟨hq,q⟩|⟨hq,q⟩
 ·obtain⟨its,r',pl,hz⟩:=I.list hq;have K3:=r'.length;refine call_tuple_list pl.isList (fun h' kp=>?_) (by simp only[List.size_toArray]<;>omega);have I1:Inv X pins σ H { s with heap:=h' }:=I.kept (t':=s.toks) kp
  have I2:Inv X pins σ (upd H h'.objs.size (.tup ys)) { s with heap:=h'.push { cls:=.type "tuple",data:=.seq its.toArray } }:=
   I1.laid (t':=s.toks) (fun b o e=>Heap.get?_push_of_some _ e) (abl _) (show bq X.prog X.w _ _ _ (.tup ys)from⟨hz,its,r',IsTup.new _ _⟩)
  exact⟨.ref h'.objs.size,_,I2,rfl,q _ (I1.hok.fresh (abl _))⟩
 ·obtain⟨its,r',pl,hz⟩:=I.tuple hq;exact call_tuple_same pl ⟨.ref p,H,I,rfl,q⟩
def Y7(K:W.Frag)(T:String)(x:V)(H:Hp):Prop:=match x with
 |.str _=>T="str"
 |.int _=>T="int"
 |.ref p=>(T="list"∧∃xs,O4 K H p xs)∨(T="tuple"∧∃o,K.lookup p=some o∧o.cls=.type "tuple"∧o.dict=none)∨
   (T="dict"∧((∃kvs,H p=some (.dK kvs))∨∃kvs,H p=some (.dT kvs)))∨(T="set"∧∃S n,H p=some (.set S n))
 |_=>False
theorem GC{pins:List (Addr×Obj)}{σ:St}{H:Hp}{s:Shared}{T:String}{x:V}{v:Value}(I:Inv X pins σ H s)(r:aQ x v)(ty:Y7 X.K T x H):
  s.TypeIs v T∧∀a,v=.ref a→∃ob,s.heap.get? a=some ob∧ob.dict=none:=by
 cases x with
 |str z=>
  obtain⟨t,rfl⟩:=r
  cases(show T="str" from ty)
  exact⟨typeIs_str s z t,fun _ e=>nomatch e⟩
 |int i=>
  obtain⟨t,rfl⟩:=r
  cases(show T="int" from ty)
  exact⟨typeIs_int s i t,fun _ e=>nomatch e⟩
 |ref p=>
  cases r
  rcases ty with⟨rfl,xs,hq⟩|⟨rfl,o,hk,hc,hd⟩|⟨rfl,hk⟩|⟨rfl,S,n,hk⟩
  ·obtain⟨its,_,pl,_⟩:=I.list hq;refine⟨pl.isList.typeIs,fun a e=>?_⟩
   cases e
   obtain⟨o,n,e,c,hd,_⟩:=pl;exact⟨o,e,hd⟩
  ·refine⟨⟨o,I.Qj p o hk,hc⟩,fun a e=>?_⟩
   cases e
   exact⟨o,I.Qj _ o hk,hd⟩
  ·have z:∃o,s.heap.get? p=some o∧o.ExactDict:=by
    rcases hk with⟨kvs,hk⟩|⟨kvs,hk⟩
    ·obtain⟨_,_,_,_,o,_,_,e,ex,_⟩:=I.hok p _ hk;exact⟨o,e,ex⟩
    ·obtain⟨_,_,_,_,o,_,_,e,ex,_⟩:=I.hok p _ hk;exact⟨o,e,ex⟩
   obtain⟨o,e,ex⟩:=z;refine⟨⟨o,e,ex.1⟩,fun a e2=>?_⟩
   cases e2
   exact⟨o,e,ex.2.1⟩
  ·obtain⟨o,_,_,_,e,ex,_⟩:=I.hok p _ hk;refine⟨⟨o,e,ex.1⟩,fun a e2=>?_⟩
   cases e2
   exact⟨o,e,ex.2.1⟩
 |_=>exact False.elim ty
noncomputable def tBM(K:W.Frag)(T:String)(r:V→List V→Hp→VK→Prop)(to:TE)(t:TA):TE:=fun σ H Q=>to σ H fun x H1=>Y7 K T x H1∧t σ H1 fun xs H2=>r x xs H2 Q
variable{o e:Expr}{es:List Expr}{to:TE}{t:TA}{name:Str}{apos O2:Pos}{T id:String}{r:V→List V→Hp→VK→Prop}
theorem KO(pa:PlainAttrs T)(slot:Slot T name id)(Yh:typeOf (.builtin id)=pure (.type "method_descriptor"))(hm:MtR X id r)(ho:PE X o to)(ha:PA X (e::es) t)
  (QH:attributeBase o name X.env (eval o X.env)=eval o X.env:=by rfl)
  (Ym:((backTo O2 (starEach (e::es) X.env)).all (fun x=>!x.1)&&(backToKw O2 (keywordEach [] X.env)).all (fun x=>x.1.isSome)
   &&decide ((e::es).length+([]:List Keyword).length+(if([]:List Keyword).isEmpty then 0 else 1)<30))=true:=by rfl)
  (hline:(apos.endLine==O2.line)=true:=by rfl)(hs:sE0 X e es:=by rfl) (Vj:(backTo O2 (starEach es X.env)).any (·.1)=false:=by rfl):
  PE X (.Call (.Attribute o name apos) (e::es) [] O2) (tBM X.K T r to t):=by
 intro pins s σ H Q I h;refine wpAny_Call_method_late QH Ym hline rfl (G4 (ho pins s σ H _ I h) ?_);rintro v s1 ⟨x,H1,I1,r1,ty,q1⟩;obtain⟨h1,h2⟩:=GC I1 r1 ty;refine⟨T,id,pa,slot,Yh,h1,h2,?_⟩;have hA:=ha O2 pins s1 σ H1 _ I1 q1;rw[hs]at hA ⊢;refine Calls.callWith_builtin (by show(false||(backTo O2 (starEach es X.env)).any (·.1))=false;rw[Vj]<;>rfl) (Calls.evalArgs_plain ?_);exact G4 hA (by rintro us s2 ⟨vs,H2,I2,r2,q2⟩;exact hm pins s2 σ H2 x vs v us Q I2 r1 r2 q2)
end
def MtM(X:Cx)(id:String)(r:V→List V→Hp→VK→Prop):Prop:=
 ∀(pins:List (Addr×Obj))(s:Shared)(σ:St)(H:Hp)(x:V)(xs:List V)(v:Value)(us:List Value)(Q:VK),Inv X pins σ H s→aQ x v→aL xs us→r x xs H Q→
  wpAny (model X.prog X.w) X.A (call (.builtin id) (v::us)) (EP X pins σ Q) X.xe s
theorem aL.one:∀{x:V}{us:List Value},aL [x] us→∃u,us= [u]∧aQ x u
 |_,_,.cons r .nil=>⟨_,rfl,r⟩
theorem aL.reverse{xs:List V}{us:List Value}(h:aL xs us):aL xs.reverse us.reverse:=by
 induction h with
 |nil=>exact .nil
 |cons r t ih=>rw[List.reverse_cons,List.reverse_cons];exact aL.append ih (.cons r .nil)
theorem aL.rep{xs:List V}{us:List Value}(h:aL xs us):∀k:Nat,aL (List.replicate k xs).flatten (List.replicate k us).flatten
 |0=>.nil
 |k+1=>by rw[List.replicate_succ,List.replicate_succ,List.flatten_cons,List.flatten_cons];exact aL.append h (aL.rep h k)
theorem qD(its:List Value):∀(k:Nat)(acc:List Value),
  List.foldl (fun x1 x2=>x1++x2) acc.toArray (List.replicate k its.toArray)=(acc++(List.replicate k its).flatten).toArray
 |0,acc=>by simp
 |k+1,acc=>by
  have e:acc.toArray++its.toArray=(acc++its).toArray:=by simp
  have e2:(acc++its)++(List.replicate k its).flatten=acc++(List.replicate (k+1) its).flatten:=by rw[List.replicate_succ,List.flatten_cons,List.append_assoc]
  rw[← e2,← qD its k (acc++its),← e,List.replicate_succ,List.foldl_cons]
section
variable{X:Cx}{pins:List (Addr×Obj)}{σ:St}{H:Hp}{s:Shared}{l b:Addr}{xs ys zs:List V}
theorem Inv.aa6{its R6:List Value}{n:Nat}{f:Array Value→Array Value}{t':Nat}(I:Inv X pins σ H s)(hH:H l=some (.lst xs))
  (e:s.heap.get? l=some { cls:=.type "list",data:=.seq its.toArray n }) (hf:f its.toArray=R6.toArray) (hv:aL ys R6) (hz:ys.length≤sizeLine):
  Inv X pins σ (upd H l (.lst ys)) { s with heap:=s.heap.update l (Obj.mapSeq f),toks:=t' }:=by
 have q:=PySem.IsL.update e f;rw[hf]at q;refine I.write (x:=l) (e:=l) (by rw[hH];exact trivial) (.inl rfl) (fun b' u hb hu=>(Heap.get?_update_other s.heap (Obj.mapSeq f) (Ne.symm hb)).trans hu) ⟨_,q⟩ ?_;exact⟨hz,R6,_,hv,q⟩
theorem Inv.Zt{its:List Value}{t':Nat}(I:Inv X pins σ H s)(hv:aL ys its)(hz:ys.length≤sizeLine):
  Inv X pins σ (upd H s.heap.objs.size (.lst ys)) { s with heap:=s.heap.push { cls:=.type "list",data:=.seq its.toArray },toks:=t' }:=
 I.laid (fun _ _ q=>Heap.get?_push_of_some _ q) (abl _) ⟨hz,its,0,hv,Heap.get?_push_size _ rfl⟩
theorem Inv.fresh(I:Inv X pins σ H s):H s.heap.objs.size=none:=I.hok.fresh (abl _)
theorem Inv.Xc(I:Inv X pins σ H s)(hH:H l=some (.lst xs)):xs.length≤sizeLine∧∃(its:List Value)(n:Nat),aL xs its∧xs.length=its.length∧s.heap.get? l=some { cls:=.type "list",data:=.seq its.toArray n }:=by obtain⟨z,its,n,r,e⟩:=I.hok l _ hH;exact⟨z,its,n,r,r.length,e⟩
theorem AX{n:Nat}(h:n≤sizeLine):Builtin.List.listTooLong n=false:=by unfold Builtin.List.listTooLong;exact decide_eq_false (by omega)
end
section
variable{X:Cx}
def wZ:V→List V→Hp→VK→Prop:=fun x vs H Q=>∃l xs y,x=.ref l∧vs= [y]∧H l=some (.lst xs)∧xs.length<sizeLine∧Q .non (upd H l (.lst (xs++ [y])))
theorem fS:MtM X "list.append" wZ:=by
 intro pins s σ H x vs v us Q I rx rv h;obtain⟨l,xs,y,rfl,rfl,hH,hz,q⟩:=h
 cases rx
 obtain⟨u,rfl,ru⟩:=rv.one;obtain⟨z,its,n,r,hl,e⟩:=I.Xc hH;refine call_meets F.slot_list_append ⟨_,e,rfl⟩ F.entry_list_append (F.args_list_append_2 _ _) (PySem.list_append l its.toArray n u (by rw[List.size_toArray];omega)) ⟨e,?_⟩;refine⟨.non,_,I.aa6 (R6:=its++ [u]) hH e (by simp) (r.append (.cons ru .nil)) ?_,rfl,q⟩;rw[List.length_append,List.length_singleton];omega
def KI:R2:=fun x y H Q=>∃l b xs zs,x=.ref l∧y=.ref b∧H l=some (.lst xs)∧H b=some (.lst zs)∧xs.length+zs.length≤sizeLine∧∀p,H p=none→Q (.ref p) (upd H p (.lst (xs++zs)))
theorem HL:Pa X (binaryOp .Add) KI:=by
 intro pins s σ H x y v u Q I rx ry h;obtain⟨l,b,xs,zs,rfl,rfl,hH,hB,hz,q⟩:=h
 cases rx
 cases ry
 obtain⟨z,its,n,r,hl,e⟩:=I.Xc hH;obtain⟨z2,Xd,n2,r2,hl2,e2⟩:=I.Xc hB;refine PySem.P.add_list e e2 ?_ (by rw[List.size_toArray,List.size_toArray];omega);have ea:its.toArray++Xd.toArray=(its++Xd).toArray:=by simp
 rw[ea];exact⟨.ref _,_,I.Zt (t':=s.toks) (r.append r2) (by rw[List.length_append];omega),rfl,q _ I.fresh⟩
def KC:R2:=fun x y H Q=>∃l k xs,x=.ref l∧y=.int k∧H l=some (.lst xs)∧ -(2 ^ 63)≤k∧k<2 ^ 63∧xs.length * k.toNat≤sizeLine∧
 ∀p,H p=none→Q (.ref p) (upd H p (.lst (List.replicate k.toNat xs).flatten))
theorem Ek{α:Type}(xs:List α)(k:Nat):(List.replicate k xs).flatten.length=k * xs.length:=by
 induction k with
 |zero=>simp
 |succ k ih=>rw[List.replicate_succ,List.flatten_cons,List.length_append,ih,Nat.succ_mul,Nat.add_comm]
theorem HG:Pa X (binaryOp .Mult) KC:=by
 intro pins s σ H x y v u Q I rx ry h;obtain⟨l,k,xs,rfl,rfl,hH,h1,h2,hz,q⟩:=h
 cases rx
 obtain⟨t,rfl⟩:=ry;obtain⟨z,its,n,r,hl,e⟩:=I.Xc hH;have K3:its.toArray.size * k.toNat≤sizeLine:=by rw[List.size_toArray,← hl];exact hz
 have abN:¬ its.toArray.size * k.toNat>(2 ^ 63 - 1) / 8:=by
  have:(sizeLine:Nat)≤(2 ^ 63 - 1) / 8:=by decide
  omega
 have abH:¬ (!Builtin.List.listFitsIndex k)=true:=by rw[fitsIndex_both h1 h2];exact Bool.false_ne_true
 have ZD:¬ Builtin.List.listTooLong (its.toArray.size * k.toNat)=true:=by rw[AX K3];exact Bool.false_ne_true
 have abx:List.foldl (fun x1 x2=>x1++x2) #[] (List.replicate (if its.toArray.isEmpty=true then 0 else k.toNat) its.toArray)=(List.replicate k.toNat its).flatten.toArray:=by
  have f0:∀m:Nat,List.foldl (fun x1 x2=>x1++x2) #[] (List.replicate m its.toArray)=(List.replicate m its).flatten.toArray:=fun m=>by have:=qD its m [];rw[List.nil_append]at this;exact this
  rw[f0]
  cases its with
  |nil=>simp
  |cons a r'=>rw[if_neg (by simp)]
 refine wpAny_binaryOp_repeat_ref (T:="list") (U:="int") (by decide) ⟨_,e,rfl⟩ (fun s'=>typeIs_int s' k t) noFill_list_mul F.fills_int_mul F.slot_int_rmul repeat_list F.slot_int_index.lookup
  (call_meets F.slot_int_rmul (typeIs_int s k t) F.entry_int_rmul (F.args_int_rmul_2 _ _) (int___rmul___int_list k t l its.toArray n)
   ⟨e,rfl,⟨_,e,rfl⟩,call_meets F.slot_list_mul ⟨_,e,rfl⟩ F.entry_list_mul (F.args_list_mul_2 _ _) (AutoListH.list___mul___list_int_3 l its.toArray n k t abH abN ZD) ⟨e,?_⟩⟩)
 rw[abx];exact⟨.ref _,_,I.Zt (t':=s.toks) (r.rep k.toNat) (by rw[Ek,Nat.mul_comm];exact hz),rfl,q _ I.fresh⟩
end
section
variable{prog:Program}{w:World}{A:Around}{E:Value→Shared→Prop}{s:Shared}
set_option maxRecDepth 100000 in
end
section
variable{κ:Type} [DecidableEq κ]
noncomputable def lJ(kvs:List (κ×V))(k:κ):Option V:=(kvs.find? fun kv=>decide (kv.1=k)).map (·.2)
noncomputable def iE(kvs:List (κ×V))(k:κ)(v:V):List (κ×V):=
 if(kvs.any fun kv=>decide (kv.1=k))=true then kvs.map (fun kv=>if kv.1=k then(kv.1,v)else kv)else kvs++ [(k,v)]
theorem kD{p:κ×V}{r:List (κ×V)}{k:κ}(e:p.1=k):lJ (p::r) k=some p.2:=by simp[lJ,List.find?_cons,e]
theorem kE{p:κ×V}{r:List (κ×V)}{k:κ}(e:¬ p.1=k):lJ (p::r) k=lJ r k:=by simp[lJ,List.find?_cons,e]
theorem sS(k:κ):∀kvs:List (κ×V),(kvs.any fun kv=>decide (kv.1=k))=(lJ kvs k).isSome
 |[]=>rfl
 |p::r=>by
  rw[List.any_cons]
  by_cases e:p.1=k
  ·simp only[kD e,decide_eq_true e,Bool.true_or,Option.isSome_some]
  ·rw[kE e,decide_eq_false e,Bool.false_or];exact sS k r
theorem jq(kvs:List (κ×V))(k:κ)(v:V):(iE kvs k v).length≤kvs.length+1:=by
 unfold iE
 split
 ·rw[List.length_map];omega
 ·rw[List.length_append,List.length_cons,List.length_nil];omega
theorem jX.Qk{o:Option V}{u:Option Value}(r:jX o u):o.isSome=u.isSome:=by
 cases o with
 |none=>cases u with
  |none=>rfl
  |some _=>exact(show False from r).elim
 |some _=>cases u with
  |none=>exact(show False from r).elim
  |some _=>rfl
theorem KV.val{kvs:List (κ×V)}{vs:List (κ×Value)}(r:KV kvs vs)(k:κ):jX (lJ kvs k) (valueAt vs k):=by
 unfold KV at r
 induction r with
 |nil=>exact True.intro
 |@cons p q ps qs h t ih=>
  obtain⟨h1,h2⟩:=h
  by_cases e:p.1=k
  ·have e':q.1=k:=h1.symm.trans e;have b:valueAt (q::qs) k=some q.2:=by simp[valueAt,List.find?_cons,e']
   rw[kD e,b];exact h2
  ·have e':¬ q.1=k:=fun z=>e (h1.trans z);have b:valueAt (q::qs) k=valueAt qs k:=by simp[valueAt,List.find?_cons,e']
   rw[kE e,b];exact ih
theorem KV.any{kvs:List (κ×V)}{vs:List (κ×Value)}(r:KV kvs vs)(k:κ):(kvs.any fun kv=>decide (kv.1=k))=vs.any fun kv=>decide (kv.1=k):=by
 unfold KV at r
 induction r with
 |nil=>rfl
 |cons h t ih=>rw[List.any_cons,List.any_cons,ih,h.1]
theorem KV.repl{kvs:List (κ×V)}{vs:List (κ×Value)}(r:KV kvs vs)(k:κ){y:V}{u:Value}(ry:aQ y u):
  KV (kvs.map fun kv=>if kv.1=k then(kv.1,y)else kv) (vs.map fun kv=>if kv.1=k then(kv.1,u)else kv):=by
 unfold KV at r ⊢
 induction r with
 |nil=>exact .nil
 |@cons p q ps qs h t ih=>
  rw[List.map_cons,List.map_cons];refine .cons ?_ ih;obtain⟨h1,h2⟩:=h
  by_cases e:p.1=k
  ·rw[if_pos e,if_pos (h1.symm.trans e)];exact⟨h1,ry⟩
  ·rw[if_neg e,if_neg (fun z=>e (h1.trans z))];exact⟨h1,h2⟩
theorem KV.put{kvs:List (κ×V)}{vs:List (κ×Value)}(r:KV kvs vs)(k:κ){y:V}{u:Value}(ry:aQ y u):KV (iE kvs k y) (stored vs k u):=by
 unfold iE stored;rw[r.any k]
 by_cases e:(vs.any fun kv=>decide (kv.1=k))=true
 ·rw[if_pos e,if_pos e];exact r.repl k ry
 ·rw[if_neg e,if_neg e];exact Paired.snoc r ⟨rfl,ry⟩
theorem KV.length{kvs:List (κ×V)}{vs:List (κ×Value)}(r:KV kvs vs):kvs.length=vs.length:=Paired.length r
end
theorem qt{P:Program}{w:World}{k:Key}{u:Value}(r:aQ (kV k) u):(bF P w).is k u=true:=by
 cases k with
 |inl i=>obtain⟨t,e⟩:=(show∃t,u=Value.int i t from r);subst e;exact uh P w i t
 |inr x=>obtain⟨t,e⟩:=(show∃t,u=Value.str x t from r);subst e;exact ug P w x t
theorem qv{P:Program}{w:World}:∀{ks:List Key}{us:List Value},aL (ks.map kV) us→ItemsAre (bF P w) ks us
 |[],_,r=>by rw[List.map_nil]at r;cases r;exact .nil
 |k::ks,_,r=>by
  rw[List.map_cons]at r
  cases r with
  |cons h t=>exact .cons (qt h) (qv t)
abbrev KT(H:Hp):List (List Key×V)→List (List Key×Addr×Value)→Prop:=Paired fun p q=>p.1=q.1∧H q.2.1=some (.tup (p.1.map kV))∧aQ p.2 q.2.2
theorem KT.val{H:Hp}{kvs:List (List Key×V)}{xs:List (List Key×Addr×Value)}(r:KT H kvs xs)(k:List Key):jX (lJ kvs k) ((atKey xs k).map (·.2)):=by
 induction r with
 |nil=>exact True.intro
 |@cons p q ps qs h t ih=>
  obtain⟨h1,_,h2⟩:=h
  by_cases e:p.1=k
  ·have e':q.1=k:=h1.symm.trans e;have b:atKey (q::qs) k=some q.2:=by simp[atKey,List.find?_cons,e']
   rw[kD e,b];exact h2
  ·have e':¬ q.1=k:=fun z=>e (h1.trans z);have b:atKey (q::qs) k=atKey qs k:=by simp[atKey,List.find?_cons,e']
   rw[kE e,b];exact ih
theorem KT.repl{H:Hp}{kvs:List (List Key×V)}{xs:List (List Key×Addr×Value)}(r:KT H kvs xs)(k:List Key){y:V}{u:Value}(ry:aQ y u):
  KT H (kvs.map fun kv=>if kv.1=k then(kv.1,y)else kv) (xs.map (putAt k u)):=by
 induction r with
 |nil=>exact .nil
 |@cons p q ps qs h t ih=>
  rw[List.map_cons,List.map_cons];refine .cons ?_ ih;obtain⟨h1,h2,h3⟩:=h;unfold putAt
  by_cases e:p.1=k
  ·rw[if_pos e,if_pos (h1.symm.trans e)];exact⟨h1,h2,ry⟩
  ·rw[if_neg e,if_neg (fun z=>e (h1.trans z))];exact⟨h1,h2,h3⟩
theorem KT.put{H:Hp}{kvs:List (List Key×V)}{xs:List (List Key×Addr×Value)}(r:KT H kvs xs)(k:List Key){b:Addr}{y:V}{u:Value}(hb:H b=some (.tup (k.map kV)))(ry:aQ y u):
  KT H (iE kvs k y) (storedH xs k b u):=by
 have e:(kvs.any fun kv=>decide (kv.1=k))=(atKey xs k).isSome:=by rw[sS,(r.val k).Qk,Option.isSome_map]
 unfold iE storedH;rw[e]
 by_cases q:(atKey xs k).isSome=true
 ·rw[if_pos q,if_pos q];exact r.repl k ry
 ·rw[if_neg q,if_neg q];exact Paired.snoc r ⟨rfl,hb,ry⟩
theorem KT.keeps{H H':Hp}{kvs:List (List Key×V)}{xs:List (List Key×Addr×Value)}(r:KT H kvs xs)(ht:∀b ys,H b=some (.tup ys)→H' b=some (.tup ys)):KT H' kvs xs:=
 Paired.Ye r fun _ _ z=>⟨z.1,ht _ _ z.2.1,z.2.2⟩
section
variable{P:Program}{w:World}{H:Hp}{h:Heap}{a:Addr}
theorem FV{u:HO}(ok:Ql P w H h)(e:Rd H a u):bq P w H h a u:=e.ok ok
theorem iU{kvs:List (Key×V)}(ok:Ql P w H h)(e:Rd H a (.dK kvs)):kvs.length≤sizeLine∧(a==sysModules)=false∧∃vs,KV kvs vs∧h.DictOf (bF P w) a vs:=
 show bq P w H h a (.dK kvs)from FV ok e
theorem Gj{kvs:List (Key×V)}(ok:Ql P w H h)(e:H a=some (.dK kvs)):kvs.length≤sizeLine∧(a==sysModules)=false∧∃vs,KV kvs vs∧h.DictOf (bF P w) a vs:=iU ok (.inl e)
theorem oy{ks:List Key}(ok:Ql P w H h)(e:H a=some (.tup (ks.map kV))):(tupleKind (bF P w)).is h ks a:=by
 obtain⟨_,its,r,o,h1,h2,n,h3⟩:=(show bq P w H h a (.tup (ks.map kV))from ok a _ e)
 exact⟨o,its.toArray,n,h1,h2,h3,by simpa using qv r⟩
theorem qF{kvs:List (List Key×V)}(ok:Ql P w H h)(e:Rd H a (.dT kvs)):kvs.length≤sizeLine∧(a==sysModules)=false∧
  ∃xs,KT H kvs xs∧h.DictOfH (tupleKind (bF P w)) a xs:=by
 obtain⟨z,y,xs,r,o,es,ep,h1,h2,h3,h4,h5⟩:=(show bq P w H h a (.dT kvs)from FV ok e)
 refine⟨z,y,xs,r,o,es,ep,h1,h2,h3,h4,fun x hx=>?_,h5⟩
 have all:∀{l:List (List Key×V)}{m:List (List Key×Addr×Value)},KT H l m→∀x∈m,(tupleKind (bF P w)).is h x.1 x.2.1:=by
  intro l m q
  induction q with
  |nil=>intro x hx;exact nomatch hx
  |@cons p q ps qs hq t ih=>
   intro x hx;rcases List.mem_cons.mp hx with e|hx
   ·subst e;exact oy ok (by rw[← hq.1];exact hq.2.1)
   ·exact ih x hx
 exact all r x hx
theorem LS{kvs:List (List Key×V)}(ok:Ql P w H h)(e:H a=some (.dT kvs)):kvs.length≤sizeLine∧(a==sysModules)=false∧
  ∃xs,KT H kvs xs∧h.DictOfH (tupleKind (bF P w)) a xs:=qF ok (.inl e)
end
def uZ(H:Hp)(a:Addr)(y:V)(r:Option V):Prop:=
 (∃kvs k,Rd H a (.dK kvs)∧y=kV k∧r=lJ kvs k)∨∃kvs k b,Rd H a (.dT kvs)∧y=.ref b∧H b=some (.tup (k.map kV))∧r=lJ kvs k
def Cm(H:Hp)(a:Addr)(y v:V)(H':Hp):Prop:=
 (∃kvs k,H a=some (.dK kvs)∧y=kV k∧kvs.length<sizeLine∧H'=upd H a (.dK (iE kvs k v)))∨
 ∃kvs k b,H a=some (.dT kvs)∧y=.ref b∧H b=some (.tup (k.map kV))∧kvs.length<sizeLine∧H'=upd H a (.dT (iE kvs k v))
theorem Cm.k{H:Hp}{a:Addr}{kvs:List (Key×V)}{k:Key}{v:V}(e:H a=some (.dK kvs))(hl:kvs.length<sizeLine):Cm H a (kV k) v (upd H a (.dK (iE kvs k v))):=.inl ⟨kvs,k,e,rfl,hl,rfl⟩
section
variable{X:Cx}{pins:List (Addr×Obj)}{σ:St}{H:Hp}{s:Shared}{a:Addr}{y v:V}{u r:Value}{o:Option V}{A:Around}{E:Value→Shared→Prop}
theorem Inv.big(I:Inv X pins σ H s):sysModules<s.heap.objs.size:=by have h:mainGlobals<s.heap.objs.size:=(I.mod.glob.keeps I.bk).lt;exact Nat.lt_trans (by decide) h
theorem yZ{Q:Value→Shared→Prop}(hu:A.units+1<cLine)(I:Inv X pins σ H s)(g:uZ H a y (some v))(ry:aQ y u)(h:∀w' s',Inv X pins σ H s'→aQ v w'→Q w' s'):
  wpAny (model X.prog X.w) A (getItem (.ref a) u) Q E s:=by
 rcases g with⟨kvs,k,e,ey,l⟩|⟨kvs,k,b,e,ey,eb,l⟩
 ·subst ey;obtain⟨z,hd,vs,rel,dd⟩:=iU I.hok e;obtain⟨w',hw,Tg⟩:=jX.some_of (v:=v) (o:=valueAt vs k) (by rw[l];exact rel.val k);exact wpAny_getItem_of (qt ry) dd.mapOf hw (h w' _ (I.tok _) Tg)
 ·subst ey
  cases(show u=Value.ref b from ry)
  obtain⟨z,hd,xs,rel,dd⟩:=qF I.hok e;obtain⟨w',hw,Tg⟩:=jX.some_of (v:=v) (o:=(atKey xs k).map (·.2)) (by rw[l];exact rel.val k);obtain⟨p,hp,WY⟩:=Option.map_eq_some_iff.mp hw;refine wpAny_getItem_heap (tupleKind_room_in1 hu) (oy I.hok eb) dd hp ?_;rw[WY];exact h w' _ (I.tok _) Tg
theorem NP{Q:Value→Shared→Prop}(hu:A.units+1<cLine)(I:Inv X pins σ H s)(g:uZ H a y o)(ry:aQ y u)(h:∀s',Inv X pins σ H s'→Q (.bool o.isSome) s'):
  wpAny (model X.prog X.w) A (compareOp .In u (.ref a)) Q E s:=by
 rcases g with⟨kvs,k,e,ey,l⟩|⟨kvs,k,b,e,ey,eb,l⟩
 ·subst ey;obtain⟨z,hd,vs,rel,dd⟩:=iU I.hok e;refine wpAny_in_of (qt ry) hd dd.mapOf ?_;rw[← (rel.val k).Qk,← l];exact h _ (I.tok _)
 ·subst ey
  cases(show u=Value.ref b from ry)
  obtain⟨z,hd,xs,rel,dd⟩:=qF I.hok e;refine wpAny_in_heap (tupleKind_room_in1 hu) (oy I.hok eb) hd dd ?_;have q:=(rel.val k).Qk;rw[Option.isSome_map]at q;rw[← q,← l];exact h _ (I.tok _)
theorem Fk{Q:Value→Shared→Prop}(hu:A.units+1<cLine)(I:Inv X pins σ H s)(g:uZ H a y o)(ry:aQ y u)(h:∀s',Inv X pins σ H s'→Q (.bool (!o.isSome)) s'):
  wpAny (model X.prog X.w) A (compareOp .NotIn u (.ref a)) Q E s:=by
 rcases g with⟨kvs,k,e,ey,l⟩|⟨kvs,k,b,e,ey,eb,l⟩
 ·subst ey;obtain⟨z,hd,vs,rel,dd⟩:=iU I.hok e;refine wpAny_notIn_of (qt ry) hd dd.mapOf ?_;rw[← (rel.val k).Qk,← l];exact h _ (I.tok _)
 ·subst ey
  cases(show u=Value.ref b from ry)
  obtain⟨z,hd,xs,rel,dd⟩:=qF I.hok e;refine wpAny_notIn_heap (tupleKind_room_in1 hu) (oy I.hok eb) hd dd ?_;have q:=(rel.val k).Qk;rw[Option.isSome_map]at q;rw[← q,← l];exact h _ (I.tok _)
theorem sv{h':Heap}{t':Nat}{ob:HO}(I:Inv X pins σ H s)(mu:Mut (H a))(hs:Heap.SameBut a s.heap h')(he:∃q,h'.get? a=some q)(new:bq X.prog X.w (upd H a ob) h' a ob):
  Inv X pins σ (upd H a ob) { s with heap:=h',toks:=t' }:=
 I.write (x:=a) (e:=a) mu (.inl rfl) (fun b q hb z=>(hs.2 b hb).trans z) he new
theorem wk{P:Program}{w:World}{H':Hp}{h':Heap}{kvs:List (Key×V)}{vs:List (Key×Value)}(z:kvs.length≤sizeLine)(hd:(a==sysModules)=false)(rel:KV kvs vs)(dd:h'.DictOf (bF P w) a vs):
  bq P w H' h' a (.dK kvs):=⟨z,hd,vs,rel,dd⟩
theorem yY{H':Hp}{Q:Unit→Shared→Prop}(hu:A.units+1<cLine)(I:Inv X pins σ H s)(g:Cm H a y v H')(ry:aQ y u)(rv:aQ v r)(h:∀s',Inv X pins σ H' s'→Q () s'):
  wpAny (model X.prog X.w) A (setItem (.ref a) u r) Q E s:=by
 rcases g with⟨kvs,k,e,ey,l,eH⟩|⟨kvs,k,b,e,ey,eb,l,eH⟩
 ·subst ey eH;obtain⟨z,hd,vs,rel,dd⟩:=Gj I.hok e;have hz:vs.length≤sizeLine:=by rw[← rel.length];exact z
  have hl:(iE kvs k v).length≤sizeLine:=by have:=jq kvs k v;omega
  refine wpAny_setItem_pairs (hsz:=hz) (qt ry) dd fun h' Xj hs=>h _ ?_;have he:∃q,h'.get? a=some q:=let⟨q,_,_,hq,_⟩:=Xj;⟨q,hq⟩;exact sv I (by rw[e];exact True.intro) hs he (wk hl hd (rel.put k rv) Xj)
 ·subst ey eH
  cases(show u=Value.ref b from ry)
  obtain⟨z,hd,xs,rel,dd⟩:=LS I.hok e;have hz:xs.length≤sizeLine:=by rw[← Paired.length rel];exact z
  have hl:(iE kvs k v).length≤sizeLine:=by have:=jq kvs k v;omega
  refine wpAny_setItem_heap (hsz:=hz) (tupleKind_room_in1 hu) (oy I.hok eb) dd fun h' Xj hs=>h _ ?_;obtain⟨q,es,ep,hq,h2,h3,h4,_,h5⟩:=Xj;refine sv I (by rw[e];exact True.intro) hs ⟨q,hq⟩ ⟨hl,hd,_,(rel.put k eb rv).keeps fun c ys ec=>?_,q,es,ep,hq,h2,h3,h4,h5⟩;rw[aj (qg ec e (fun z=>nomatch z))];exact ec
end
section
variable{X:Cx}{pins:List (Addr×Obj)}{σ:St}{H:Hp}{s:Shared}{a:Addr}{kvs:List (Key×V)}{k:Key}{u:Value}{A:Around}{E:Value→Shared→Prop}
theorem LX{Q:Value→Shared→Prop}(I:Inv X pins σ H s)(e:Rd H a (.dK kvs))(h:∀t s',Inv X pins σ H s'→Q (.int kvs.length t) s'):wpAny (model X.prog X.w) A (call (.builtin "len") [.ref a]) Q E s:=by obtain⟨z,hd,vs,rel,dd⟩:=iU I.hok e;refine call_len_dict hd dd (by rw[← rel.length];rw[sizeLine_eq]at z;omega) ?_;rw[← rel.length];exact h _ _ (I.tok _)
end
theorem uK{X:Cx}{pins:List (Addr×Obj)}{σ:St}{H:Hp}{s:Shared}{a:Addr}{y:V}{o:Option V}(I:Inv X pins σ H s)(g:uZ H a y o):s.TypeIs (.ref a) "dict":=by
 rcases g with⟨kvs,k,e,_,_⟩|⟨kvs,k,b,e,_,_,_⟩
 ·obtain⟨_,_,vs,_,dd⟩:=iU I.hok e;exact dd.typeIs
 ·obtain⟨_,_,xs,_,dd⟩:=qF I.hok e;exact dd.typeIs
noncomputable def Ko(td ty tv:TE):TS:=fun D σ H=>tv σ H fun v H1=>td σ H1 fun x H2=>ty σ H2 fun y H3=>∃a H4,x=.ref a∧Cm H3 a y v H4∧D.nx σ H4
section
variable{X:Cx}{o i e value:Expr}{pos pos' aaU:Pos}{td ty tv:TE}
theorem Dp(hu:X.A.units+1<cLine)(ho:PE X o td)(hi:PE X i ty)(hv:PE X value tv)(hs:swapsWith value (some (.Subscript o i pos')) pos.line X.env=pure false):
  PS X (.Assign [.Subscript o i pos'] value pos) (Ko td ty tv):=by
 intro pins s σ H D I h;refine wpAny_Assign_Subscript (G4 (hv pins s σ H _ I h) fun r s1 ⟨v,H1,I1,rv,q1⟩=>G4 (ho pins s1 σ H1 _ I1 q1) fun u s2 ⟨x,H2,I2,rx,q2⟩=>G4 (hi pins s2 σ H2 _ I2 q2) ?_) hs;rintro iv s3 ⟨y,H3,I3,ry,a,H4,ex,g,q3⟩;subst ex;obtain rfl:u=Value.ref a:=rx;exact yY hu I3 g ry rv fun s4 I4=>⟨σ,H4,I4,q3⟩
end
theorem uJ{P:Program}{w:World}{H:Hp}(h:Heap)(hb:sysModules<h.objs.size):bq P w H (h.push { cls:=.type "dict",data:=.dict #[] }) h.objs.size (.dK []):=
 ⟨Nat.zero_le _,beq_eq_false_iff_ne.mpr (Ne.symm (Nat.ne_of_lt hb)),[],.nil,Heap.DictOf.new h⟩
def GJ:TE:=fun _ H Q=>∀p,H p=none→Q (.ref p) (upd H p (.dK []))
section
variable{X:Cx}{pos:Pos}
theorem AQ:PE X (.Dict [] [] pos) GJ:=fun pins s σ H Q I h=>wpAny_Dict_empty ⟨.ref s.heap.objs.size,_,I.laid (a:=s.heap.objs.size) (o:=.dK []) (t':=s.toks) (fun _ _ q=>Heap.get?_push_of_some _ q) (abl _) (uJ s.heap I.big),rfl,h _ (I.hok.fresh (abl _))⟩
end
def qX:List (TE×TE)→St→Hp→(List (V×V)→Hp→Prop)→Prop
 |[],_,H,Q=>Q [] H
 |(tk,tv)::r,σ,H,Q=>tk σ H fun x H1=>tv σ H1 fun y H2=>qX r σ H2 fun ps H3=>Q ((x,y)::ps) H3
abbrev VV:List (V×V)→List (Value×Value)→Prop:=Paired fun p q=>aQ p.1 q.1∧aQ p.2 q.2
def Z_(X:Cx)(pos:Pos)(keys:List (Option Expr))(values:List Expr)(V4:List (TE×TE)):Prop:=
 ∀(pins:List (Addr×Obj))(s:Shared)(σ:St)(H:Hp)(Q:List (V×V)→Hp→Prop),Inv X pins σ H s→qX V4 σ H Q→
  wpAny (model X.prog X.w) X.A (evalPairs (pairTrees keys values X.env pos)) (fun vs s'=>∃ps H',Inv X pins σ H' s'∧VV ps vs∧Q ps H') X.xe s
theorem Dt{X:Cx}{pos:Pos}:Z_ X pos [] [] []:=fun pins s σ H Q I h=>pairTrees_nil_walk ⟨[],H,I,.nil,h⟩
theorem Ay{X:Cx}{pos:Pos}{k v:Expr}{ks:List (Option Expr)}{vs:List Expr}{tk tv:TE}{V4:List (TE×TE)}(hk:PE X k tk)(hv:PE X v tv)(hr:Z_ X pos ks vs V4):
  Z_ X pos (some k::ks) (v::vs) ((tk,tv)::V4):=fun pins s σ H Q I h=>
 pairTrees_cons_walk (G4 (hk pins s σ H _ I h) (by rintro u s1 ⟨x,H1,I1,rx,q1⟩;exact G4 (hv pins s1 σ H1 _ I1 q1) (by rintro w2 s2 ⟨y,H2,I2,ry,q2⟩;exact G4 (hr pins s2 σ H2 _ I2 q2) (by rintro ws s3 ⟨ps,H3,I3,rel,q3⟩;exact ⟨(x,y)::ps,H3,I3,.cons ⟨rx,ry⟩ rel,q3⟩))))
def gl(kvs more:List (Key×V)):List (Key×V):=more.foldl (fun acc kv=>iE acc kv.1 kv.2) kvs
theorem KV.merge:∀{more:List (Key×V)}{rs:List (Key×Value)}{kvs:List (Key×V)}{vs:List (Key×Value)},KV more rs→KV kvs vs→KV (gl kvs more) (merged vs rs):=by
 intro more rs kvs vs r;unfold KV at r
 induction r generalizing kvs vs with
 |nil=>intro q;exact q
 |@cons p q ps qs h t ih=>
  intro r0
  have e:KV (iE kvs p.1 p.2) (stored vs q.1 q.2):=by have:=r0.put p.1 h.2;rw[← h.1];exact this
  exact ih e
theorem kb:∀(more kvs:List (Key×V)),(gl kvs more).length≤kvs.length+more.length
 |[],kvs=>by show kvs.length≤kvs.length+0;omega
 |p::r,kvs=>by have h1:=kb r (iE kvs p.1 p.2);have h2:=jq kvs p.1 p.2;show(gl (iE kvs p.1 p.2) r).length≤_;rw[List.length_cons];omega
theorem oN{P:Program}{w:World}:∀{kvs:List (Key×V)}{ws:List (Value×Value)},VV (kvs.map fun kv=>(kV kv.1,kv.2)) ws→∃rs,Carries (bF P w) ws rs∧KV kvs rs
 |[],_,r=>by rw[List.map_nil]at r;cases r;exact⟨[],True.intro,.nil⟩
 |p::kvs,_,r=>by
  rw[List.map_cons]at r
  cases r with
  |@cons a b as bs h t=>obtain⟨rs,c,q⟩:=oN (P:=P) (w:=w) t;obtain⟨b1,b2⟩:=b;exact⟨(p.1,b2)::rs,⟨qt h.1,rfl,c⟩,.cons ⟨rfl,h.2⟩ q⟩
def Ka(V4:List (TE×TE)):TE:=fun σ H Q=>∀p,H p=none→qX V4 σ (upd H p (.dK [])) fun ps H2=>H2 p=some (.dK [])∧∃kvs:List (Key×V),ps=kvs.map (fun kv=>(kV kv.1,kv.2))∧kvs.length≤15∧Q (.ref p) (upd H2 p (.dK (gl [] kvs)))
theorem DF{X:Cx}{pos:Pos}{keys:List (Option Expr)}{values:List Expr}{V4:List (TE×TE)}(h:Z_ X pos keys values V4)(Vm:keys.all (·.isSome)=true)(hl:keys.length=values.length)(h0:keys≠ [])
  (YQ:keys.length≤15):PE X (.Dict keys values pos) (Ka V4):=by
 intro pins s σ H Q I q;have hn:=I.hok.fresh (abl s.heap.objs.size);have I1:=I.laid (a:=s.heap.objs.size) (o:=.dK []) (h':=s.heap.push { cls:=.type "dict",data:=.dict #[] }) (t':=s.toks) (fun _ _ q=>Heap.get?_push_of_some _ q) (abl _) (uJ s.heap I.big);refine wpAny_Dict_walk (knd:=bF X.prog X.w) Vm hl h0 YQ (G4 (h pins _ σ _ _ I1 (q _ hn)) ?_);rintro ws s2 ⟨ps,H2,I2,rel,e,kvs,ep,lk,q2⟩;subst ep;obtain⟨rs,c,rk⟩:=oN (P:=X.prog) (w:=X.w) rel;obtain⟨z,hd,YC,r0,dd⟩:=Gj I2.hok e
 cases r0
 refine⟨rs,c,dd,fun h' Xj hs=>⟨.ref s.heap.objs.size,_,?_,rfl,q2⟩⟩
 have hz:(gl [] kvs).length≤sizeLine:=by have h1:=kb kvs [];rw[List.length_nil]at h1;rw[sizeLine_eq];omega
 have he:∃q,h'.get? s.heap.objs.size=some q:=let⟨q,_,_,hq,_⟩:=Xj;⟨q,hq⟩;exact sv I2 (by rw[e];exact True.intro) hs he (wk hz hd (rk.merge .nil) Xj)
def IsD(H:Hp)(a:Addr):Prop:=(∃kvs,Rd H a (.dK kvs))∨∃kvs,Rd H a (.dT kvs)
theorem IV{X:Cx}{pins:List (Addr×Obj)}{σ:St}{H:Hp}{s:Shared}{a:Addr}(I:Inv X pins σ H s)(d:IsD H a):
  s.TypeIs (.ref a) "dict"∧(∀b,Value.ref a=.ref b→∃ob,s.heap.get? b=some ob∧ob.dict=none)∧(a==sysModules)=false:=by
 rcases d with⟨kvs,e⟩|⟨kvs,e⟩
 ·obtain⟨_,hd,vs,_,dd⟩:=iU I.hok e;refine⟨dd.typeIs,fun b q=>?_,hd⟩
  cases q
  obtain⟨ob,_,_,h1,h2,_⟩:=dd;exact⟨ob,h1,h2.2.1⟩
 ·obtain⟨_,hd,xs,_,dd⟩:=qF I.hok e;refine⟨dd.typeIs,fun b q=>?_,hd⟩
  cases q
  obtain⟨ob,_,_,h1,h2,_⟩:=dd;exact⟨ob,h1,h2.2.1⟩
section
variable{X:Cx}{pins:List (Addr×Obj)}{σ:St}{H:Hp}{s:Shared}{a:Addr}{kvs:List (Key×V)}{A:Around}{E:Value→Shared→Prop}
theorem BQ{Q:Value→Shared→Prop}(I:Inv X pins σ H s)(e:Rd H a (.dK kvs))(h:∀p s',H p=none→Inv X pins σ (upd H p (.dK kvs)) s'→Q (.ref p) s'):wpAny (model X.prog X.w) A (call (.type "dict") [.ref a]) Q E s:=by obtain⟨z,hd,vs,rel,dd⟩:=iU I.hok e;refine kt_call_dict hd dd (by rw[← rel.length];exact z) fun h' Xj hs=>?_;refine h _ _ (I.hok.fresh (abl _)) (I.laid (a:=s.heap.objs.size) (o:=.dK kvs) (t':=s.toks) (fun b q hq=>?_) (abl _) (wk z (beq_eq_false_iff_ne.mpr (Ne.symm (Nat.ne_of_lt I.big))) rel Xj));exact(hs.2 b (Nat.ne_of_lt (Heap.lt_size hq))).trans (Heap.get?_push_of_some _ hq)
end
end L2
namespace Att
open PySem PySem.W PySem.Calls PyProof.Rows
theorem mN{P:Params}{h:Heap}:∀(ns:List Int)(vs:List Value),WellAll P h vs (ns.map WData.int)→IntsAre vs ns:=by
 intro ns
 induction ns with
 |nil=>
  intro vs w;rw[List.map_nil]at w
  cases w
  exact .nil
 |cons n ns ih=>
  intro vs w;rw[List.map_cons]at w
  cases w with
  |cons a b=>
   cases a
   exact .cons _ _ (ih _ b)
theorem xR{l:OpenLaw}{n:Nat}(hn:l.most=some n){P:Params}{h:Heap}{args:List WData}{vals:List Value}
  (Xe:l.row.toRowW.claim.pre args=true) (hwl:WellAll P h vals args):
  ∃a vs ns,vals= [Value.ref a]∧args= [WData.list (ns.map WData.int)]∧h.get? a=some { cls:=.type "list",data:=.seq vs.toArray }∧IntsAre vs ns∧ns.length≤n:=by
 have hsh:WShape.hasAll [] args [.list .int]=true:=(pre_splitW Xe).1;have hc:l.pre.holds [] { args:=args }=true:=(pre_splitW Xe).2;obtain⟨d,r,rfl,h1,h2⟩:=hasAllW_cons hsh;obtain rfl:=hasAllW_nil h2;obtain⟨xs,rfl,h3⟩:=hasW_list h1;obtain⟨ns,rfl⟩:=items_int h3
 have K3:ns.length≤n:=by
  unfold OpenLaw.pre at hc
  have h4:(WTm.not (.lt (.lit (.int (n:Int))) (.len (.arg 0)))).holds [] { args:=[.list (ns.map .int)] }=true:=by have h4:=(holds_andW hc).1;rw[hn]at h4;exact h4
  have h5:=condW_of h4 (w_not (w_lt w_lit (w_len_list (w_arg rfl))));rw[List.length_map]at h5;refine Nat.le_of_not_lt fun q=>?_;have q':(n:Int)<((ns.length:Nat):Int):=by omega
  first
   |(rw[decide_eq_true q']at h5;exact absurd h5 (by decide))
   |(simp at h5;omega)
 cases hwl with
 |cons w1 w2=>
  cases w2
  cases w1 with
  |list ho Vm=>exact⟨_,_,ns,rfl,rfl,ho,mN ns _ Vm,K3⟩
theorem ym(l:OpenLaw)(args:List WData):l.row.toRowW.claim.post args (.bool true) args=true:=
 postW_of (r:=l.row.toRowW) (X:=(true==true))
  (show WShape.has [] (.bool true) .bool=true by first|rfl|decide|simp[WShape.has,WShape.arms,WShape.armsAll])
  (show(WTm.eq .res (.lit (.bool true))).value [] { args:=args,res:=some (.bool true),after:=args }=some (.bool (true==true))from w_eq_bool (w_res rfl) w_lit) rfl
theorem UW{l:OpenLaw}{n:Nat}{q:Program}{loose:List Str}{XP:(Str→Option Value)→Heap→Prop}{YP:World→Heap→Prop}{d:DefRec}
  (hn:l.most=some n) (ZQ:d.params.defaults= [])
  (call:∀(w:World)(s₀ s₁:Shared)(mg mb:Str→Option Value)(fa:Addr)(o:Obj)(pm cd doc:Value)(a:Addr)(vs:List Value)(ns:List Int),
   Ground q loose [] XP w s₀ mg mb s₁.heap→YP w s₁.heap→
   s₁.heap.get? fa=some o→o.data=.func (docDef d.name d.params d.body d.scope pm cd doc)→s₁.heap.CodeRec cd d.name→mg d.name=some (.ref fa)→
   s₁.heap.get? a=some { cls:=.type "list",data:=.seq vs.toArray }→IntsAre vs ns→ns.length≤n→s₁.gens= #[]→
   codeAny (model l.prog w) callerA (.call (.ref fa) ⟨[.ref a],[]⟩) (fun r s'=>r=.ok (.ret (.bool true))∧OldK s₁.heap s'.heap∧s'.os=s₁.os∧AllBare s'.gens) s₁):
  WalkO q loose XP YP l.row.toRowW d [] (fun f vs=>PySem.call f vs):=by
 intro w s₀ s₁ mg mb G Y fa o pm cd doc dV kV ho hd S8 hD Zz hg args vals as Xe afe hrd hwl hlo;obtain rfl:dV=.none:=Dflts.none hD ZQ;obtain rfl:kV=.none:=Dflts.noKw hD;obtain⟨a,vs,ns,rfl,rfl,Yl,hints,K3⟩:=xR hn Xe hwl;refine enter_call (codeAny_mono (call w s₀ s₁ mg mb fa o pm cd doc a vs ns G Y ho (fd_plain hd) S8 Zz Yl hints K3 hg) fun r s' hq=>?_);obtain⟨rfl,h2,h3,h4⟩:=hq;exact⟨.inl ⟨.bool true,.bool true,[],rfl,fun _=>rfl,.bool true,ym l _,fun _=>⟨List.Pairwise.nil,fun _ hm=>(nomatch hm)⟩⟩,h2,h3,h4⟩
end Att
namespace L2
open PySem PySem.Spec PyProof.Rows
theorem pO:∀{vs:List Value}{ns:List Int},IntsAre vs ns→aL (ns.map V.int) vs
 |_,_,.nil=>.nil
 |_,_,.cons n t h=>.cons ⟨t,rfl⟩ (pO h)
def JF(H:Hp):Prop:=∀b,H b=none∨∃o xs,H b=some (.Rx o (.lst xs))
theorem Bi{P:Program}{w:World}{K:W.Frag}{mg mb:Str→Option Value}{CX:Vq}{k:Nat}{fa a:Addr}{fd:FuncData}{x:Str}{sp:Sp}{s₁:Shared}{vs:List Value}{ns:List Int}
  (KX:K.In s₁.heap) (hns:s₁.heap.Ns mainGlobals mg) (hb:s₁.heap.Ns builtinsNs mb) (hbb:∀x:Str,x≠"__name__"→mb x=bootBuiltins x) (abz:s₁.heap.NoLimit) (hg:s₁.gens= #[])
  (ha:s₁.heap.get? a=some { cls:=.type "list",data:=.seq vs.toArray }) (hi:IntsAre vs ns) (hl:ns.length≤sizeLine) (hr:aY k callerA)
  (F:∀base:Heap,K.In base→base.Ns mainGlobals mg→bK P w K mg base CX k fa fd [x] sp) (ZS:∀(s:Shared)(u:Value),BindsTo s fd ⟨[u],[]⟩ [(x,u)])
  (Wo:∀H:Hp,JF H→O4 K H a (ns.map V.int)→sp [.ref a] H (fun v _=>v=.bl true) fun _ _ _=>False)
  (hCX:∀H e s',CX [] H s₁ (fun _ _ _=>False) e s'→False):
  codeAny (model P w) callerA (.call (.ref fa) ⟨[.ref a],[]⟩) (fun r s'=>r=.ok (.ret (.bool true))∧OldK s₁.heap s'.heap∧s'.os=s₁.os∧AllBare s'.gens) s₁:=by
 have rv:=pO hi;have aa8:=hi.length
 have core:∀H:Hp,JF H→O4 K H a (ns.map V.int)→Ql P w H s₁.heap→(∀b,H b≠none→b=a)→(H a≠none→K.lookup a=none)→
   codeAny (model P w) callerA (.call (.ref fa) ⟨[.ref a],[]⟩) (fun r s'=>r=.ok (.ret (.bool true))∧OldK s₁.heap s'.heap∧s'.os=s₁.os∧AllBare s'.gens) s₁:=by
  intro H hO hS hok hA hK;have VD:∀{b:Addr}{o:Obj},s₁.heap.get? b=some o→H b=none→(sd s₁.heap H).get? b=some o:=fun e n=>By e n
  have Zq:∀{b:Addr}{o:Obj}{es:Array DictEntry}{ep:Nat},s₁.heap.get? b=some o→o.data=.dict es ep→H b=none:=fun{b o es ep} e d=>by
   cases q:H b with
   |none=>rfl
   |some u=>
    have e':b=a:=hA b (by rw[q];simp);subst e';rw[ha]at e;cases e;have d':Data.seq vs.toArray _=Data.dict es ep:=d
    cases d'
  have nsK:∀{b:Addr}{m:Str→Option Value},s₁.heap.Ns b m→(sd s₁.heap H).Ns b m:=fun{b m} ⟨o,es,ep,e,d,r⟩=>⟨o,es,ep,VD e (Zq e d),d,r⟩
  have hKb:K.In (sd s₁.heap H):=fun b o e=>VD (KX b o e) (by
   cases q:H b with
   |none=>rfl
   |some u=>have e':b=a:=hA b (by rw[q];simp);subst e';rw[hK (by rw[q];simp)]at e;cases e)
  have hM:Mod K mg (sd s₁.heap H):=⟨hKb,nsK hns,⟨mb,nsK hb,hbb⟩,let⟨mc,h1,h2⟩:=abz;⟨mc,nsK h1,h2⟩⟩
  have e0:pJ P w K mg (sd s₁.heap H) callerA [] s₁ H:=⟨rfl,hM,fun b o e=>DV e,Nat.le_of_eq (yV _ _),trivial,fun b hb=>absurd (show b∈([]:List Addr)from hb) (by simp),hok,.of_eq hg⟩
  refine codeAny_mono ((F _ hKb (nsK hns)).run callerA [] s₁ H ⟨[.ref a],[]⟩ [.ref a] [.ref a] _ _ hr e0 (ZS s₁ (.ref a)) (.cons rfl .nil) (Wo H hO hS)) fun r s' h=>?_
  cases r with
  |error e=>exact(hCX H e s' h).elim
  |ok fl=>
   cases fl with
   |next=>exact False.elim h
   |brk=>exact False.elim h
   |cont=>exact False.elim h
   |ret u=>
    obtain⟨v,H',os,bare,un,abu,r',q⟩:=h;have q':v=.bl true:=q;subst q';obtain rfl:u=Value.bool true:=r';refine⟨rfl,OldK.of_keep fun b o e=>?_,os,bare⟩
    cases q:H b with
    |none=>exact un.keep b o e q (by intro z;exact absurd (show b∈([]:List Addr)from z) (by simp)) (by simp)
    |some u=>
     rcases hO b with z|⟨ob,xs,z⟩
     ·rw[q]at z;cases z
     ·have z2:=un.M7 b ob _ z;obtain⟨e1,_⟩:=hok b _ z;obtain⟨e2,_⟩:=abu b _ z2;rw[e]at e1;cases e1;exact e2
 cases hk:K.lookup a with
 |some o=>
  have e:=KX a o hk;rw[ha]at e
  cases e
  refine core (fun _=>none) (fun _=>.inl rfl) (.inr ⟨_,vs.toArray,_,hk,rfl,rfl,rfl,by rw[List.size_toArray,aa8];exact hl,by simpa using rv⟩) (fun b u z=>by have z':(none:Option HO)=some u:=z;cases z') (fun b z=>absurd rfl z) fun z=>absurd rfl z
 |none=>
  refine core (fun b=>if b=a then some (.Rx { cls:=.type "list",data:=.seq vs.toArray } (.lst (ns.map V.int)))else none) (fun b=>?_) (.inl (.inr ⟨{ cls:=.type "list",data:=.seq vs.toArray },if_pos rfl⟩)) (fun b u z=>?_) (fun b z=>?_) fun _=>hk
  ·by_cases hb:b=a
   ·exact .inr ⟨_,_,if_pos hb⟩
   ·exact .inl (if_neg hb)
  ·by_cases hb:b=a
   ·have z':=(if_pos hb).symm.trans z
    cases z'
    subst hb;exact⟨ha,by rw[List.length_map];exact hl,vs,_,rv,ha⟩
   ·have z':=(if_neg hb).symm.trans z
    cases z'
  ·by_cases hb:b=a
   ·exact hb
   ·exact absurd (if_neg hb) z
theorem Cy{l:W.OpenLaw}{n k:Nat}{q:Program}{loose:List Str}{XP:(Str→Option Value)→Heap→Prop}{YP:World→Heap→Prop}{d:DefRec}{K:Params→W.Frag}{CX:World→Vq}{sp:World→Sp}{x:Str}
  (hn:l.most=some n) (hn2:n≤sizeLine) (ZQ:d.params.defaults= []) (hr:aY k callerA)
  (hY:∀(w:World)(h:Heap),YP w h→(K w.params).In h)
  (F:∀(w:World)(mg:Str→Option Value)(fa:Addr)(h:Heap),(K w.params).In h→h.Ns mainGlobals mg→mg d.name=some (.ref fa)→
   ∃fd:FuncData,(∀(s:Shared)(u:Value),BindsTo s fd ⟨[u],[]⟩ [(x,u)])∧
    ∀base:Heap,(K w.params).In base→base.Ns mainGlobals mg→bK l.prog w (K w.params) mg base (CX w) k fa fd [x] (sp w))
  (Wo:∀(w:World)(H:Hp)(a:Addr)(ns:List Int),ns.length≤n→JF H→O4 (K w.params) H a (ns.map V.int)→sp w [.ref a] H (fun v _=>v=.bl true) fun _ _ _=>False)
  (hCX:∀(w:World)(H:Hp)(s:Shared)(e:Value)(s':Shared),CX w [] H s (fun _ _ _=>False) e s'→False):
  W.WalkO q loose XP YP l.row.toRowW d [] (fun f vs=>PySem.call f vs):=by
 refine Att.UW hn ZQ fun w s₀ s₁ mg mb fa o pm cd doc a vs ns G Y ho hd S8 Zz Yl hints K3 hg=>?_;have KX:=hY w _ Y;obtain⟨fd,hb,hF⟩:=F w mg fa _ KX G.T.g Zz;exact Bi KX G.T.g G.T.b G.T.builtins G.T.nolimit hg Yl hints (Nat.le_trans K3 hn2) hr hF hb (fun H hO hS=>Wo w H a ns K3 hO hS) fun H e s'=>hCX w H s₁ e s'
noncomputable def bP(s:Stmt)(j:Nat):Stmt:=match s with
 |.ClassDef _ _ _ body _ _ _ _ _ _ _=>body.getD j (.Pass ⟨0,0,0,0⟩)
 |_=>.Pass ⟨0,0,0,0⟩
noncomputable def jN(s:Stmt):Arguments:=match s with
 |.FunctionDef _ a _ _ _ _ _ _ _ _=>a
 |_=> { posonlyargs:=[],args:=[],vararg:=none,kwonlyargs:=[],kw_defaults:=[],kwarg:=none,defaults:=[] }
noncomputable def bV(s:Stmt):List Stmt:=match s with
 |.FunctionDef _ _ b _ _ _ _ _ _ _=>b
 |_=> []
noncomputable def aG(s:Stmt):Scope:=match s with
 |.FunctionDef _ _ _ _ _ _ sc _ _ _=>sc
 |_=> { kind:=.function,names:=[],isGenerator:=false,isCoroutine:=false }
abbrev QX:Vq:=fun _ _ _ _ _ _=>False
abbrev E0:XK:=fun _ _ _=>False
theorem Gc{X:Cx}:cg QX X E0:=fun _ _ _ _ _ _ _ h=>h.elim
structure Vp(K:W.Frag)(x qual:Str)(st:Stmt)(f:Addr)(fd:FuncData):Prop where
 ex:∃(oc:Value)(od:Option Addr)(kV doc pm:Value)(an:Option Addr)(E_ ct:Value)(S6:Array (Option Value)),
  fd=W.fnOf x qual (jN st) (bV st) (aG st) .none kV doc pm an E_ ct∧K.lookup f=some ⟨oc,od,.func fd,S6⟩∧W.codeIn K E_ qual=true
 kp:W.keepIn K (.ref f)=true
section
variable{P:Program}{w:World}{K:W.Frag}{mg:Str→Option Value}{base:Heap}
theorem Vp.ok{x qual:Str}{st:Stmt}{f:Addr}{fd:FuncData}{N ps:List Str}{k:Nat}{sp:Sp}(F:Vp K x qual st f fd)(S:dQ N ps (aG st))(len:∀vs H Q E,sp vs H Q E→vs.length=ps.length)
  (Uz:∀(E_:Value)(A:Around)(outer:List Env)(s:Shared)(H:Hp)(vs:List V)(Q:VK)(E:XK),aY k (A.deeper (envOfC qual (aG st) s.heap.objs.size f E_))→sp vs H Q E→
   ∃t,Te (iW QX P w K mg base N qual (aG st) f E_ A outer s H E).Xu (bV st) t∧t { nx:=fun _ H'=>Q .non H',rt:=Q } (fL N vs) H):bK P w K mg base QX (k+1) f fd ps sp:=by
 obtain⟨oc,od,kV,doc,pm,an,E_,ct,S6,rfl,lk,S8⟩:=F.ex;refine xu lk S8 S len fun A outer s H vs Q E hr Wo=>?_;obtain⟨t,h,q⟩:=Uz E_ A outer s H vs Q E hr Wo;exact⟨t,h.Xu,q⟩
theorem Vp.binds{x qual:Str}{st:Stmt}{f:Addr}{fd:FuncData}{ps:List Str}(F:Vp K x qual st f fd)
  (h:∀(kV doc pm:Value)(an:Option Addr)(E_ ct:Value)(us:List Value),us.length=ps.length→bindArgs (W.fnOf x qual (jN st) (bV st) (aG st) .none kV doc pm an E_ ct) ⟨us,[]⟩=pure (ps.zip us)):bC K fd ps []:=by
 obtain⟨oc,od,kV,doc,pm,an,E_,ct,S6,rfl,lk,S8⟩:=F.ex;exact .all (h kV doc pm an E_ ct)
theorem BA{x qual:Str}{st:Stmt}{f:Addr}{oc:Value}{od an:Option Addr}{S6:Array (Option Value)}{kV doc pm E_ ct:Value}(l:K.lookup f=some ⟨oc,od,.func (W.fnOf x qual (jN st) (bV st) (aG st) .none kV doc pm an E_ ct),S6⟩)
  (c:W.codeIn K E_ qual=true) (k:W.keepIn K (.ref f)=true):Vp K x qual st f (W.fnOf x qual (jN st) (bV st) (aG st) .none kV doc pm an E_ ct):=⟨⟨oc,od,kV,doc,pm,an,E_,ct,S6,rfl,l,c⟩,k⟩
end
section
variable{X:Cx}
theorem pv(i:Nat){x:Str}{pos:Pos}(hN:X.N[i]? =some x:=by rfl)(hv:Vis X.env.scope x:=by first|exact Or.inl rfl|exact Or.inr (Or.inl rfl)|exact Or.inr (Or.inr rfl))(hd:nD0 x:=by decide)
  (S8:(x==("__classdict__":Str))=false:=by decide):PE X (.Name x pos) (CH i):=AG hN hv hd S8
end
theorem yR{A B:Prop}(h:B):if false=true then A else B:=by rw[if_neg Bool.false_ne_true];exact h
theorem yQ{A B:Prop}(h:A):if true=true then A else B:=by rw[if_pos rfl];exact h
def cA(H H':Hp):Prop:=∀b o,H b=some o→H' b=some o
theorem cA.refl(H:Hp):cA H H:=fun _ _ h=>h
theorem cA.trans{H H1 H2:Hp}(a:cA H H1)(b:cA H1 H2):cA H H2:=fun c o h=>b c o (a c o h)
theorem cA.free{H H':Hp}(e:cA H H'){l:Addr}(h:H' l=Option.none):H l=Option.none:=by
 cases q:H l with
 |none=>rfl
 |some o=>
  rw[e l o q]at h
  cases h
theorem cA.seq{K:W.Frag}{H H':Hp}{a:Addr}{xs:List V}(e:cA H H')(h:O4 K H a xs):O4 K H' a xs:=by
 rcases h with(h|⟨o,h⟩)|h
 ·exact .inl (.inl (e _ _ h))
 ·exact .inl (.inr ⟨o,e _ _ h⟩)
 ·exact .inr h
end L2
set_option maxHeartbeats 4000000
namespace L2
open PySem PySem.Spec PyProof.Rows
noncomputable def Its(x:Str):It:=⟨fun i _=>i<x.cps.size,fun i H v H'=>H'=H∧∃c,x.cps[i]? =some c∧v=.str ⟨#[c]⟩,fun i _=>i=x.cps.size⟩
theorem sX{P:Program}{w:World}{K:PySem.W.Frag}{tg:Expr}{ty:String}(it:Addr)(x:Str)(t:Tok)
  (W:∀A:Around,A.handled=none→Walks P w A it [it] [it] x.cps.size (SignAt x) (fun i h=>h.IsStrIter it ty x t i))
  (Wq:∀(A:Around)(i:Nat)(s:Shared)(Q:Value→Shared→Prop)(E:Value→Shared→Prop),s.heap.IsStrIter it ty x t i→Q (.ref it) s→wpAny (model P w) A (pyIter (.ref it)) Q E s)
  (Yh: ["enumerate","zip","dict_itemiterator","dict_reverseitemiterator","odict_iterator","itertools.zip_longest","itertools.pairwise"].contains ty=false):
  uV P w K tg (Its x) [it] it (fun i h=>h.IsStrIter it ty x t i) where
 mem:=by simp
 obj:=fun i h st b hb=>by
  have e:b=it:=by simpa using hb
  subst e;obtain⟨o,e,c,d⟩:=st;exact⟨o,e,fun v z=>by rw[d]at z;cases z⟩
 keep:=fun i h h' st k=>by obtain⟨o,e,r⟩:=st;exact⟨o,k it (by simp) o e,r⟩
 item:=by intro X hP hw hK hc i pins s σ H E I hf st hg;subst hP hw hK;obtain⟨f0,f1,f2,f3,f4,f5⟩:=hf it (by simp);refine(W X.A (I.ok.hd hc)).item i s _ _ hg st fun v h' tk hv Ug kk=>?_;obtain⟨c,u,hcx,rfl⟩:=hv;have I1:Inv X pins σ H { s with heap:=h',toks:=tk }:=I.turned (fun b o hb e=>kk b o (by simpa using hb) e) f0 f1 f3 f4 f5;obtain⟨o,e,cc,d⟩:=id Ug;exact⟨_,rfl,xr (s:={ s with heap:=h',toks:=tk }) e cc d Yh ⟨.str ⟨#[c]⟩,H,I1,⟨u,rfl⟩,⟨rfl,c,hcx,rfl⟩,Ug,fun b hb=>(hf b hb).1⟩⟩
 done:=by intro X hP hw hK hc i pins s σ H E I hf st hg;subst hP hw hK;obtain⟨f0,f1,f2,f3,f4,f5⟩:=hf it (by simp);have hg':i=x.cps.size:=hg;subst hg';exact(W X.A (I.ok.hd hc)).done s _ _ st fun h' tk kk=>⟨rfl,I.turned (fun b o hb e=>kk b o (by simpa using hb) e) f0 f1 f3 f4 f5⟩
 self:=Wq
section
variable{X:Cx}{tg:Expr}
def Ny(ts:TE):TI:=fun σ H R=>ts σ H fun v H1=>∃x,v=.str x∧R (Its x) H1
theorem Hq{l:Expr}{tl:TE}(hl:PE X l tl):PI X tg l (Ny tl):=by
 intro pins s σ H R I h;refine G4 (hl pins s σ H _ I h) ?_;rintro v s1 ⟨x,H1,I1,r1,q1⟩;obtain⟨z,e,q⟩:=q1;subst e;obtain⟨t,rfl⟩:=r1
 cases ha:z.cps.all (· <128)
 ·refine wpAny_pyIter_wide ha ?_;refine⟨s1.heap.objs.size,[s1.heap.objs.size],_,_,H1,rfl,I1.kept (t':=s1.toks) fun b o e=>Heap.get?_push_of_some _ e,sX _ z t (fun A hA=>Walks.strWide hA _ z t) (fun _ _ _ _ _ st h=>wpAny_pyIter_striter_wide st h) (by decide),⟨_,Heap.get?_push_size _ rfl,rfl,rfl⟩,fun b hb=>?_,q⟩;have e:b=s1.heap.objs.size:=by simpa using hb
  subst e;exact I1.T8 (abl _) (I1.hok.fresh (abl _))
 ·refine wpAny_pyIter_ascii ha ?_;refine⟨s1.heap.objs.size,[s1.heap.objs.size],_,_,H1,rfl,I1.kept (t':=s1.toks) fun b o e=>Heap.get?_push_of_some _ e,sX _ z t (fun A hA=>Walks.strAscii hA _ z t) (fun _ _ _ _ _ st h=>wpAny_pyIter_striter_ascii st h) (by decide),⟨_,Heap.get?_push_size _ rfl,rfl,rfl⟩,fun b hb=>?_,q⟩;have e:b=s1.heap.objs.size:=by simpa using hb
  subst e;exact I1.T8 (abl _) (I1.hok.fresh (abl _))
end
noncomputable def eA(cells:List (Str×Addr)):List (Str×NameKind)→List (Str×Addr)→List (Str×Addr)
 |[],cs=>cs
 |(n,k)::r,cs=>eA cells r (if k==.free then(match cells.lookup n with|some a=>(n,a)::cs|none=>cs)else cs)
theorem kc{scope:Scope}{env:Env}(h:∀n,(n,NameKind.free)∈scope.names→∃c,env.cells.lookup n=some c):closureFor scope env=pure (eA env.cells scope.names []):=by
 unfold closureFor
 have go:∀(l:List (Str×NameKind))(cs:List (Str×Addr)),(∀n,(n,NameKind.free)∈l→∃c,env.cells.lookup n=some c)→
   (forIn l cs fun x r=>if(x.2==NameKind.free)=true then do let a ← cellOf env x.1;pure (ForInStep.yield ((x.1,a)::r))else pure (ForInStep.yield r):Sem (List (Str×Addr)))=pure (eA env.cells l cs):=by
  intro l
  induction l with
  |nil=>intro cs _;rfl
  |cons x r ih=>
   intro cs hl;obtain⟨n,k⟩:=x;rw[List.forIn_cons];have hr:∀n,(n,NameKind.free)∈r→∃c,env.cells.lookup n=some c:=fun y hy=>hl y (List.mem_cons_of_mem _ hy)
   by_cases hk:k=.free
   ·subst hk;obtain⟨c,hc⟩:=hl n List.mem_cons_self;have e:cellOf env n=pure c:=by unfold cellOf;rw[hc]
    simp only[beq_self_eq_true,if_true,e,pure_bind,eA,hc];exact ih _ hr
   ·have hb:(k==NameKind.free)=false:=by simpa using hk
    simp only[hb,Bool.false_eq_true,if_false,pure_bind,eA];exact ih _ hr
 have q:=go scope.names [] h;simp only[bind_pure];exact q
theorem qJ(cells:List (Str×Addr)):∀(l:List (Str×NameKind))(cs:List (Str×Addr))(p:Str×Addr),p∈eA cells l cs→p∈cs∨(cells.lookup p.1=some p.2∧(p.1,NameKind.free)∈l)
 |[],cs,p,h=>.inl h
 |(n,k)::r,cs,p,h=>by
  unfold eA at h;rcases qJ cells r _ p h with q|⟨q1,q2⟩
  ·by_cases hk:k=.free
   ·subst hk;simp only[beq_self_eq_true,if_true]at q
    cases e:cells.lookup n with
    |none=>rw[e]at q;exact .inl q
    |some a=>
     rw[e]at q;rcases List.mem_cons.mp q with rfl|q
     ·exact .inr ⟨e,List.mem_cons_self⟩
     ·exact .inl q
   ·have hb:(k==NameKind.free)=false:=by simpa using hk
    simp only[hb,Bool.false_eq_true,if_false]at q;exact .inl q
  ·exact .inr ⟨q1,List.mem_cons_of_mem _ q2⟩
theorem qI(cells:List (Str×Addr)):∀(l:List (Str×NameKind))(cs:List (Str×Addr))(p:Str×Addr),p∈cs→p∈eA cells l cs
 |[],_,_,h=>h
 |(n,k)::r,cs,p,h=>by
  unfold eA;refine qI cells r _ p ?_
  split
  ·split
   ·exact List.mem_cons_of_mem _ h
   ·exact h
  ·exact h
theorem qK(cells:List (Str×Addr)){x:Str}{c:Addr}(hc:cells.lookup x=some c):∀(l:List (Str×NameKind))(cs:List (Str×Addr)),(x,NameKind.free)∈l→(x,c)∈eA cells l cs
 |(n,k)::r,cs,h=>by
  unfold eA;rcases List.mem_cons.mp h with e|h
  ·cases e
   refine qI cells r _ _ ?_;simp only[beq_self_eq_true,if_true,hc];exact List.mem_cons_self
  ·exact qK cells hc r _ h
theorem ka{x:Str}{c:Addr}:∀{l:List (Str×Addr)},(x,c)∈l→∃c',l.lookup x=some c'
 |(y,d)::r,h=>by
  by_cases e:x=y
  ·subst e;exact⟨d,by simp[List.lookup_cons]⟩
  ·have hb:(x==y)=false:=by simpa using e
   rw[List.lookup_cons,hb];rcases List.mem_cons.mp h with q|q
   ·cases q;exact absurd rfl e
   ·exact ka q
theorem eU{cells:List (Str×Addr)}{l:List (Str×NameKind)}{x:Str}{c:Addr}(h:(eA cells l []).lookup x=some c):cells.lookup x=some c∧(x,NameKind.free)∈l:=by
 rcases qJ cells l [] (x,c) (PySem.mem_of_lookup h)with q|q
 ·cases q
 ·exact q
theorem uP{cells:List (Str×Addr)}{l:List (Str×NameKind)}{x:Str}{c:Addr}(hc:cells.lookup x=some c)(h:(x,NameKind.free)∈l):(eA cells l []).lookup x=some c:=by obtain⟨c',e⟩:=ka (qK cells hc l [] h);rw[e,← hc,(eU e).1]
def PFs(X:Cx)(ifs:List Expr)(t:TT):Prop:=
 ∀(pins:List (Addr×Obj))(s:Shared)(σ:St)(H:Hp)(Q:Bool→Hp→Prop),Inv X pins σ H s→t σ H Q→
  wpAny (model X.prog X.w) X.A (forIn ifs true fun c r=>if r=true then do let ok ← isTrue c X.env (eval c X.env);pure (ForInStep.yield ok)else pure (ForInStep.yield r)) (TP X pins σ Q) X.xe s
noncomputable def Mq:TT:=fun _ H Q=>Q true H
theorem Hv{X:Cx}:PFs X [] Mq:=fun _ _ _ H _ I h=>wpAny_tests_nil ⟨H,I,h⟩
theorem Hu{X:Cx}{c:Expr}{t:TT}(h:PT X c t):PFs X [c] t:=fun pins s σ H Q I hw=>wpAny_tests_one (h pins s σ H Q I hw)
noncomputable def eh(X:Cx)(N:List Str)(scope:Scope)(cl:List (Str×Addr))(C:Addr)(ex:List Addr)(s:Shared)(H:Hp):Cx where
 prog:=X.prog
 w:=X.w
 K:=X.K
 mg:=X.mg
 base:=X.base
 A:=X.A
 N:=N
 s₀:=s
 H₀:=H
 env:=compEnvC scope cl C X.env
 outer:=X.stack
 stack:=X.stack
 ex:=ex
 fn:=fun _=>false
 calm:=true
 pn:=[]
 xe:=fun _ _=>False
structure dj(N:List Str)(Xq scope:Scope)(u_:List Nat)(x:Str)(M:List Str):Prop where
 kind:scope.kind=.function
 T3:∀y∈scope.names,y.2≠.cell
 names:∀y∈scope.names,y.2=.local→scope.names.lookup y.1=some .local
 var:scope.names.lookup x=some .local
 free:∀y∈scope.names,y.2=.free→Xq.names.lookup y.1=some .cell∨Xq.names.lookup y.1=some .free
 inN:M=x::u_.map fun i=>N.getD i ""
 cap:∀i∈u_,i<N.length∧scope.names.lookup (N.getD i "")=some .free
 nd:M.Nodup
noncomputable def xC(N:List Str)(Xq scope:Scope)(u_:List Nat)(x:Str)(M:List Str):Bool:=
 decide (scope.kind=.function)&&decide (∀y∈scope.names,y.2≠.cell)&&decide (∀y∈scope.names,y.2=.local→scope.names.lookup y.1=some .local)&&decide (scope.names.lookup x=some .local)
  &&decide (∀y∈scope.names,y.2=.free→Xq.names.lookup y.1=some .cell∨Xq.names.lookup y.1=some .free)&&decide (M=x::u_.map fun i=>N.getD i "")
  &&decide (∀i∈u_,i<N.length∧scope.names.lookup (N.getD i "")=some .free)&&decide M.Nodup
theorem dj.of{N:List Str}{Xq scope:Scope}{u_:List Nat}{x:Str}{M:List Str}(h:xC N Xq scope u_ x M=true):dj N Xq scope u_ x M:=by unfold xC at h;simp only[abk]at h;obtain⟨⟨⟨⟨⟨⟨⟨a,b⟩,c⟩,d⟩,e⟩,f⟩,g⟩,i⟩:=h;exact⟨of_decide_eq_true a,of_decide_eq_true b,of_decide_eq_true c,of_decide_eq_true d,of_decide_eq_true e,of_decide_eq_true f,of_decide_eq_true g,of_decide_eq_true i⟩
noncomputable def gP(u_:List Nat)(σ:St):St:=u_.map fun i=>(σ[i]?).getD none
def zF(u_:List Nat)(wi:TI)(tt:TT)(te:TE):TE:=fun σ H Q=>wi σ H fun J H1=>∃W:Nat→Nat→List V→Hp→Prop,(∃m,W 0 m [] H1)∧
 ∀i m acc H,W i m acc H→(J.stop i H∧∀D,H D=none→Q (.ref D) (upd H D (.lst acc)))∨
  (J.go i H∧acc.length<sizeLine∧∀v H',J.XJ i H v H'→tt (some v::gP u_ σ) H' fun b H2=>if b=true then te (some v::gP u_ σ) H2 fun y H3=>∃m',m'<m∧W (i+1) m' (acc++ [y]) H3 else∃m',m'<m∧W (i+1) m' acc H2)
theorem Ql.adopt{P:Program}{w:World}{H:Hp}{h:Heap}{a:Addr}{o:HO}(x:Ql P w H h)(hn:H a=none)(new:bq P w (upd H a o) h a o):Ql P w (upd H a o) h:=fun b u e=>by
 by_cases hb:b=a
 ·subst hb;rw[aA]at e;cases e;exact new
 ·rw[aj hb]at e;exact(x b u e).stay (fun c v _ q=>q) (fun c q=>by rw[aj (ar q hn)];exact q) fun c xs q=>by rw[aj (ar q hn)];exact q
theorem iC{env:Env}{x:Str}:∀{names:List (Str×NameKind)},(∀y∈names,y.2≠.cell)→∀{k:NameKind},
  (names.map fun(n,k)=>if(k==NameKind.free&&env.scope.kind==.function&&env.kindOf n==some .cell)then(n,NameKind.cell)else(n,k)).lookup x=some k→k=.cell∨k=.free→(x,NameKind.free)∈names
 |[],_,_,h,_=>by simp at h
 |(n,k0)::r,hn,k,h,hk=>by
  have ih:= @iC env x r (fun y hy=>hn y (List.mem_cons_of_mem _ hy)) k;rw[List.map_cons]at h
  by_cases hc:(k0==NameKind.free&&env.scope.kind==.function&&env.kindOf n==some .cell)=true
  ·have h2:List.lookup x ((n,NameKind.cell)::r.map fun(n,k)=>if(k==NameKind.free&&env.scope.kind==.function&&env.kindOf n==some .cell)then(n,NameKind.cell)else(n,k))=some k:=by have q:=h;simp only[hc,if_true]at q;exact q
   have hf:k0=.free:=by
    have z:(k0==NameKind.free)=true:=by
     cases e:(k0==NameKind.free)with
     |true=>rfl
     |false=>rw[e]at hc;simp at hc
    simpa using z
   by_cases e:x=n
   ·subst e;subst hf;exact List.mem_cons_self
   ·have hb:(x==n)=false:=by simpa using e
    rw[List.lookup_cons,hb]at h2;exact List.mem_cons_of_mem _ (ih h2 hk)
  ·have h2:List.lookup x ((n,k0)::r.map fun(n,k)=>if(k==NameKind.free&&env.scope.kind==.function&&env.kindOf n==some .cell)then(n,NameKind.cell)else(n,k))=some k:=by have q:=h;simp only[hc,if_false]at q;exact q
   by_cases e:x=n
   ·subst e;rw[List.lookup_cons,beq_self_eq_true]at h2;have e2:k0=k:=Option.some.inj h2;subst e2;rcases hk with z|z
    ·exact absurd z (hn (x,k0) List.mem_cons_self)
    ·subst z;exact List.mem_cons_self
   ·have hb:(x==n)=false:=by simpa using e
    rw[List.lookup_cons,hb]at h2;exact List.mem_cons_of_mem _ (ih h2 hk)
theorem kP{env:Env}{x:Str}:∀{names:List (Str×NameKind)},names.lookup x=some .free→
  (names.map fun(n,k)=>if(k==NameKind.free&&env.scope.kind==.function&&env.kindOf n==some .cell)then(n,NameKind.cell)else(n,k)).lookup x=some .cell∨
  (names.map fun(n,k)=>if(k==NameKind.free&&env.scope.kind==.function&&env.kindOf n==some .cell)then(n,NameKind.cell)else(n,k)).lookup x=some .free
 |[],h=>by simp at h
 |(n,k)::r,h=>by
  have ih:= @kP env x r;show List.lookup x ((if(k==NameKind.free&&env.scope.kind==.function&&env.kindOf n==some .cell)=true then(n,NameKind.cell)else(n,k))::_)=_∨List.lookup x ((if(k==NameKind.free&&env.scope.kind==.function&&env.kindOf n==some .cell)=true then(n,NameKind.cell)else(n,k))::_)=_
  by_cases hc:(k==NameKind.free&&env.scope.kind==.function&&env.kindOf n==some .cell)=true
  ·rw[if_pos hc]
   cases hx:x==n with
   |true=>left;simp[List.lookup_cons,hx]
   |false=>simp only[List.lookup_cons,hx]at h ⊢;exact ih h
  ·rw[if_neg hc]
   cases hx:x==n with
   |true=>
    simp only[List.lookup_cons,hx]at h
    right;simp[List.lookup_cons,hx,h]
   |false=>simp only[List.lookup_cons,hx]at h ⊢;exact ih h
theorem lC{prog:Program}{w:World}{A:Around}{R:Result→Shared→Prop}{s:Shared}{elt target iter:Expr}{ifs:List Expr}{scope:Scope}{pos:Pos}{it acc:Value}{env:Env}(I:Nat→Shared→Prop)
  (turn:∀n s,I n s→wpAny (model prog w) A (pyNext it) (fun r s₁=>match r with
   |none=>R (.ok .next) s₁
   |some v=>wpAny (model prog w) A (letOwnedTupleGo target it v) (fun _ s₂=>wpAny (model prog w) A (assign target env v) (fun _ s₃=>
     wpAny (model prog w) A (forIn ifs true fun c r=>if r=true then do let ok ← isTrue c env (eval c env);pure (ForInStep.yield ok)else pure (ForInStep.yield r)) (fun ok s₄=>
      if ok=true then wpAny (model prog w) A (eval elt env) (fun x s₅=>wpAny (model prog w) A (call (.builtin "list.append") [acc,x]) (fun _ s₆=>∃m,m<n∧I m s₆) (fun _ _=>False) s₅) (fun _ _=>False) s₄
      else∃m,m<n∧I m s₄) (fun _ _=>False) s₃) (fun _ _=>False) s₂) (fun _ _=>False) s₁) (fun _ _=>False) s)
  (n:Nat) (h:I n s):
  codeAny (model prog w) A (.compLoop (.ListComp elt [⟨target,iter,ifs,0⟩] scope pos) 0 it acc env) R s:=by
 refine codeAny_loop rfl I (fun n s hI=>?_) n h;show wpAny _ A ((compTurn (.ListComp elt [⟨target,iter,ifs,0⟩] scope pos) 0 it acc env).onRaise (fun x=>do noteFrame x env;theTreesLotGoes x)) _ _ s;refine wpAny_noted ?_;rw[compTurn_list];refine wpAny_bind (wpAny_standAt (wpAny_bind (wpAny_mono (turn n s hI) (fun r s₁ h₁=>?_) fun _ _ h'=>h'.elim)))
 cases r with
 |none=>exact wpAny_pure h₁
 |some v=>
  refine wpAny_bind (wpAny_mono h₁ (fun _ s₂ h₂=>wpAny_bind (wpAny_mono h₂ (fun _ s₃ h₃=>wpAny_bind (wpAny_mono h₃ (fun ok s₄ h₄=>?_) fun _ _ h'=>h'.elim)) fun _ _ h'=>h'.elim)) fun _ _ h'=>h'.elim)
  cases ok with
  |false=>exact wpAny_pure ⟨rfl,h₄⟩
  |true=>exact wpAny_bind (wpAny_bind (wpAny_mono h₄ (fun x s₅ h₅=>wpAny_bind (wpAny_mono h₅ (fun _ s₆ h₆=>wpAny_pure (wpAny_pure ⟨rfl,h₆⟩)) fun _ _ h'=>h'.elim)) fun _ _ h'=>h'.elim))
section
variable{X:Cx}
theorem Inv.cap{pins:List (Addr×Obj)}{σ:St}{H:Hp}{s:Shared}{i:Nat}{y:Str}{v:V}(I:Inv X pins σ H s)(hy:X.N[i]? =some y)(hv:σ[i]? =some (some v))(hk:X.env.kindOf y=some .cell∨X.env.kindOf y=some .free):
  ∃u c,aQ v u∧X.env.cells.lookup y=some c∧s.heap.IsCell c (some u):=by
 obtain⟨m,hn,hl⟩:=I.loc;obtain⟨u,r,l⟩:=hl i y v hy hv (by rcases hk with h|h;exact .inr (.inl h);exact .inr (.inr h));rcases l with⟨h1,_⟩|⟨_,c,hc,z⟩
 ·rcases hk with h|h<;>(rw[h1]at h;cases h)
 ·exact⟨u,c,r,hc,z⟩
theorem oK{M:List Str}{scope:Scope}{u_:List Nat}{x:Str}{pins:List (Addr×Obj)}{σ:St}{H:Hp}{s s4:Shared}{fp:List Addr}{C:Addr}{m:Str→Option Value}
  (S:dj X.N X.env.scope scope u_ x M) (QG:X.calm=true) (I:Inv X pins σ H s) (hf:∀b∈fp,iX X pins H b) (hfo:∀b∈fp,∃o,s.heap.get? b=some o)
  (hC:s.heap.objs.size≤C) (Xf:s4.os=s.os) (hg:AllBare s4.gens) (keep:∀b o,s.heap.get? b=some o→s4.heap.get? b=some o) (hn:s4.heap.Ns C m):
  Inv (eh X M scope (eA X.env.cells scope.names []) C fp s H) [] (none::gP u_ σ) H s4:=by
 have UL:∀y c,(eA X.env.cells scope.names []).lookup y=some c→X.env.cells.lookup y=some c:=fun y c h=>(eU h).1
 have fresh:∀b o,s.heap.get? b=some o→b≠C:=fun b o e z=>by subst z;exact absurd (Nat.lt_of_lt_of_le (Heap.lt_size e) hC) (Nat.lt_irrefl _)
 have ok:(eh X M scope (eA X.env.cells scope.names []) C fp s H).Ok:=by
  refine⟨I.ok.mod,?_,I.ok.glob,I.ok.blt,hC,fun y z c h1 h2=>I.ok.inj y z c (UL _ _ h1) (UL _ _ h2),fun y hy=>?_,fun y c h _=>Bool.noConfusion h,fun _=>I.ok.hd QG,I.ok.frames,.inl rfl,fun b hb=>⟨?_,fun y c h z=>?_⟩,
   I.bs,Nat.le_trans I.ok.Vz I.sz,fun b o e hb=>?_,fun b hb hs=>?_,I.stack,I.Ro⟩
  ·exact S.kind
  ·have hm:(y,NameKind.free)∈scope.names:=by
    rcases hy with h|h
    ·exact iC S.T3 h (.inl rfl)
    ·exact iC S.T3 h (.inr rfl)
   obtain⟨c,hc⟩:=I.ok.has y (S.free _ hm rfl);exact⟨c,uP hc hm⟩
  ·obtain⟨o,e⟩:=hfo b hb;exact fresh b o e
  ·exact(hf b hb).2.2.2.2.1 y c (UL y c h) z
  ·rcases(hf b hb).2.2.2.1 with z|z
   ·exact I.ok.TY b o e z
   ·exact absurd (Nat.lt_of_lt_of_le (Heap.lt_size e) (Nat.le_trans I.ok.Vz z)) (Nat.lt_irrefl _)
  ·rcases List.mem_cons.mp (I.SJ b hs)with z|z
   ·exact(hf b hb).2.1 z
   ·exact(hf b hb).2.2.1 z
 refine⟨ok,Xf,hg,Un.kept keep,⟨m,hn,fun i y v h1 h2 h3=>?_⟩,fun y c h=>?_,I.hok.fresh hC,fun y c h=>I.Oz y c (UL y c h),fun p hp=>absurd (show p∈([]:List (Addr×Obj))from hp) (by simp),I.hok.kept keep,?_⟩
 ·have Vy:M[i]? =some y:=h1
  cases i with
  |zero=>simp at h2
  |succ j=>
   rw[S.inN]at Vy;simp only[List.getElem?_cons_succ,gP,List.getElem?_map]at Vy h2
   cases e:u_[j]? with
   |none=>rw[e]at Vy;simp at Vy
   |some k=>
    rw[e]at Vy h2;simp only[Option.map_some,Option.some.injEq]at Vy h2;obtain⟨c1,c2⟩:=S.cap k (List.mem_of_getElem? e);rw[Vy]at c2
    have hN:X.N[k]? =some y:=by rw[← Vy,List.getD_eq_getElem?_getD,List.getElem?_eq_getElem c1];rfl
    have hσ:σ[k]? =some (some v):=by
     cases q:σ[k]? with
     |none=>rw[q]at h2;cases h2
     |some z=>rw[q]at h2;simpa using h2
    obtain⟨u,c,r,hc,z⟩:=I.cap hN hσ (S.free (y,.free) (PySem.mem_of_lookup c2) rfl);obtain⟨oc,ho,hd⟩:=z;exact⟨u,r,.inr ⟨kP c2,c,uP hc (PySem.mem_of_lookup c2),oc,keep _ _ ho,hd⟩⟩
 ·obtain⟨v,oc,ho,hd⟩:=I.cell y c (UL y c h);exact⟨v,oc,keep _ _ ho,hd⟩
 ·show _=M.length;rw[S.inN];simp[gP]
theorem qH{M:List Str}{scope:Scope}{cl:List (Str×Addr)}{pins K9:List (Addr×Obj)}{σ σ':St}{H H':Hp}{s s':Shared}{fp:List Addr}{C D:Addr}{Yr:Heap}{acc:List V}{its:List Value}
  (I:Inv X pins σ H s) (hf:∀b∈fp,iX X pins H b) (I':Inv (eh X M scope cl C fp s H) K9 σ' H' s') (hC:s.heap.objs.size≤C) (hD:s.heap.objs.size≤D) (V7:D≠C) (hDn:H' D=none)
  (hl:s'.heap.PlainList D its.toArray) (rv:aL acc its) (hz:acc.length≤sizeLine) (sb:Heap.SameBut C s'.heap Yr):
  Inv X pins σ (upd H' D (.lst acc)) { s' with heap:=Yr }:=by
 have below:∀b o,s.heap.get? b=some o→b≠C∧b≠D:=fun b o e=>⟨fun z=>absurd (Nat.lt_of_lt_of_le (Heap.lt_size e) (by rw[z];exact hC)) (Nat.lt_irrefl _),fun z=>absurd (Nat.lt_of_lt_of_le (Heap.lt_size e) (by rw[z];exact hD)) (Nat.lt_irrefl _)⟩
 have hHD:H D=none:=I.hok.fresh hD;have B:Un (frs X.stack) fp H H' s.heap s'.heap:=I'.base;have hHC:H' C=none:=I'.free;obtain⟨n,el⟩:=hl
 have ok1:Ql X.prog X.w H' Yr:=fun b u e=>by
  refine(show bq X.prog X.w H' s'.heap b u from I'.hok b u e).stay (fun c v hc q=>(sb.2 c ?_).trans q) (fun _ q=>q) fun _ _ q=>q;rcases hc with z|z
  ·rw[z];intro z2;rw[z2,hHC]at e;cases e
  ·intro z2;rw[z2,hHC]at z;cases z
 have ok2:Ql X.prog X.w (upd H' D (.lst acc)) Yr:=ok1.adopt hDn ⟨hz,its,n,rv,(sb.2 D V7).trans el⟩
 have U:Un (frs X.stack) fp H (upd H' D (.lst acc)) s.heap Yr:=by
  refine⟨fun b o q n hb hx=>(sb.2 b (below b o q).1).trans (B.keep b o q n hb hx),fun b o q n hb hx=>?_,fun b o q n hx=>?_,fun b o q hx=>?_,fun b xs q=>?_,fun b o u q=>?_,fun b ps q=>?_⟩
  ·obtain⟨sl,e⟩:=B.slot b o q n hb hx;exact⟨sl,(sb.2 b (below b o q).1).trans e⟩
  ·rw[aj (below b o q).2];exact B.free b o q n hx
  ·obtain⟨o',e⟩:=B.there b o q hx;exact⟨o',(sb.2 b (below b o q).1).trans e⟩
  ·rw[aj (ar q hHD)];exact B.tups b xs q
  ·rw[aj (ar q hHD)];exact B.M7 b o u q
  ·rw[aj (ar q hHD)];exact B.Ry b ps q
 have os:s'.os=s.os:=I'.os;exact I.call' (s':={ s' with heap:=Yr }) (ch:=fp) os U ok2 I'.bare fun b hb=>⟨(hf b hb).2.2.2.1,(hf b hb).2.1,(hf b hb).2.2.2.2.1,(hf b hb).2.2.2.2.2⟩
theorem DG{elt iter:Expr}{x:Str}{px:Pos}{ifs:List Expr}{scope:Scope}{pos:Pos}{wi:TI}{tt:TT}{te:TE}{M:List Str}(u_:List Nat)(QG:X.calm=true)(S:dj X.N X.env.scope scope u_ x M)
  (hi:PI X (.Name x px) iter wi) (ht:∀cl C ex s H,PFs (eh X M scope cl C ex s H) ifs tt) (he:∀cl C ex s H,PE (eh X M scope cl C ex s H) elt te)
  (hs:∀y,foldedSetIterable iter X.env y=pure y:=by intro _;rfl):PE X (.ListComp elt [⟨.Name x px,iter,ifs,0⟩] scope pos) (zF u_ wi tt te):=by
 intro pins s σ H Q I h;rw[eval_ListComp];refine wpAny_comprehension_free (use:=none) rfl hs (kc fun n hn=>I.ok.has n (S.free _ hn rfl)) S.kind S.names ?_;refine G4 (hi pins s σ H _ I h) fun v s1 h1=>G4 h1 fun itv s2 h2=>?_;obtain⟨it,fp,tn,J,H2,e,I2,T,VF,f2,W,⟨m0,w0⟩,turn⟩:=h2;subst e;refine wpAny_newObj_type (wpAny_newFunctionEnv S.T3 (by intro y hy;simp at hy) (fun h₁ Vk T5=>?_) S.kind);dsimp only at Vk T5 ⊢;generalize hH2:s2.heap.push { cls:=.type "list",dict:=none,data:=.seq ([]:List Value).toArray }=P2 at Vk T5 ⊢;have Yq:P2.objs.size=s2.heap.objs.size+1:=by rw[← hH2,Heap.size_push]
 have V7:s2.heap.objs.size≠P2.objs.size:=by rw[Yq];exact Nat.ne_of_lt (Nat.lt_succ_self _)
 have S9:s2.heap.objs.size≤P2.objs.size:=by rw[Yq];exact Nat.le_succ _
 have below:∀b,b<s2.heap.objs.size→b≠P2.objs.size:=fun b hb=>by rw[Yq];exact Nat.ne_of_lt (Nat.lt_succ_of_lt hb)
 have old:∀b o,s2.heap.get? b=some o→h₁.get? b=some o:=fun b o e=>T5.extBut b o (below b (Heap.lt_size e)) (Heap.get?_push_of_some _ (hH2▸Heap.get?_push_of_some _ e));have Yo:h₁.PlainList s2.heap.objs.size #[]:=⟨_,T5.extBut _ _ V7 (Heap.get?_push_of_some _ (hH2▸Heap.get?_push_size _ rfl))⟩
 have Yv:∀b∈fp,∃o,s2.heap.get? b=some o∧∀v,o.data≠.cell v:=T.obj 0 _ VF
 have Z1:s2.heap.objs.size∉fp:=fun hb=>by obtain⟨o,e,_⟩:=Yv _ hb;exact absurd (Heap.lt_size e) (Nat.lt_irrefl _)
 have hDs:∀{c:Addr}{o:Obj},s2.heap.get? c=some o→c≠s2.heap.objs.size:=fun e=>Nat.ne_of_lt (Heap.lt_size e)
 let Y:Cx:=eh X M scope (eA X.env.cells scope.names []) P2.objs.size fp s2 H2
 have I4:Inv Y [] (none::gP u_ σ) H2 { s2 with heap:=h₁,toks:=s2.toks+([]:List (Str×Value)).length }:=
  oK S QG I2 f2 (fun b hb=>let⟨o,e,_⟩:=Yv b hb;⟨o,e⟩) S9 rfl I2.bare old Vk
 have fpY:∀{K9:List (Addr×Obj)}{H':Hp},(∀b∈fp,H' b=none)→(∀p∈K9,p.1∉fp)→∀b∈fp,iX Y K9 H' b:=fun{K9 H'} hn hp b hb=>by
  obtain⟨o,e,_⟩:=Yv b hb;refine⟨hn b hb,below b (Heap.lt_size e),fun hs=>?_,.inl hb,fun y c h=>(f2 b hb).2.2.2.2.1 y c (eU h).1,fun p hp' z=>hp p (show p∈K9 from by have q:p∈ []++K9:=hp';simpa using q) (by rw[z];exact hb)⟩;rcases List.mem_cons.mp (I2.SJ b hs)with z|z
  ·exact(f2 b hb).2.1 z
  ·exact(f2 b hb).2.2.1 z
 have Dfs:s2.heap.objs.size∉Y.fs:=fun hs=>by obtain⟨_,o,ho,_⟩:=I2.stack.mem hs;exact absurd (Heap.lt_size ho) (Nat.lt_irrefl _)
 have WM:∀y c,Y.env.cells.lookup y=some c→c≠s2.heap.objs.size:=fun y c h z=>by obtain⟨v,q⟩:=I2.cell y c (eU h).1;rw[z]at q;exact absurd q.lt (Nat.lt_irrefl _)
 have loop:∀s₃:Shared,s₃={ s2 with heap:=h₁,toks:=s2.toks+([]:List (Str×Value)).length }→
   codeAny (model X.prog X.w) X.A (.compLoop (.ListComp elt [⟨.Name x px,iter,ifs,0⟩] scope pos) 0 (.ref it) (.ref s2.heap.objs.size) (compEnvC scope (eA X.env.cells scope.names []) P2.objs.size X.env))
    (compPost (model X.prog X.w) X.A X.xe none (EP X pins σ Q) (.ref s2.heap.objs.size) P2.objs.size) s₃:=by
  rintro s₃ rfl
  refine lC (fun n s'=>∃i acc H' its,Inv Y [] (none::gP u_ σ) H' s'∧tn i s'.heap∧(∀b∈fp,H' b=none)∧H' s2.heap.objs.size=none∧s'.heap.PlainList s2.heap.objs.size its∧aL acc its.toList∧acc.length≤sizeLine∧W i n acc H') ?_ m0
   ⟨0,[],H2, #[],I4,T.keep 0 _ _ VF (fun b hb o e=>old b o e),fun b hb=>(f2 b hb).1,I2.hok.fresh (abl _),Yo,.nil,Nat.zero_le _,w0⟩
  rintro n s5 ⟨i,acc,H5,its,I5,W_,Yt,Yp,hl5,Xa,Zw,w5⟩
  have ZR:Y.calm=true:=rfl;obtain⟨nn,el5⟩:=hl5
  have YB:Inv Y [(s2.heap.objs.size,{ cls:=.type "list",data:=.seq its nn })] (none::gP u_ σ) H5 s5:=I5.Oi fun p hp=>by
   have e:p=(s2.heap.objs.size,{ cls:=.type "list",data:=.seq its nn }):=by simpa using hp
   subst e;exact⟨el5,Yp,V7,Dfs,fun v z=>by cases z⟩
  have Yu:∀{H':Hp},(∀b∈fp,H' b=none)→∀b∈fp,iX Y [(s2.heap.objs.size,{ cls:=.type "list",data:=.seq its nn })] H' b:=fun hn=>fpY hn fun p hp=>by
   have e:p=(s2.heap.objs.size,{ cls:=.type "list",data:=.seq its nn }):=by simpa using hp
   subst e;exact Z1
  have X3:aL acc its.toList:=Xa;rcases turn i n acc H5 w5 with⟨stop,qn⟩|⟨go,U7,step⟩
  ·refine G4 (T.done Y rfl rfl rfl ZR i _ s5 _ H5 (fun _ _=>False) YB (Yu Yt) W_ stop) ?_;rintro r s6 ⟨hr,I6⟩;subst hr;obtain⟨m6,hn6,_⟩:=id I6.loc;obtain⟨p1,p2,_⟩:=I6.pin (s2.heap.objs.size,{ cls:=.type "list",data:=.seq its nn }) (by simp);refine⟨m6,hn6,fun h' sb=>⟨.ref s2.heap.objs.size,upd H5 s2.heap.objs.size (.lst acc),?_,rfl,qn _ Yp⟩⟩;exact qH (its:=its.toList) I2 f2 I6 S9 (abl _) V7 Yp (show s6.heap.PlainList s2.heap.objs.size its.toList.toArray from⟨nn,by rw[Array.toArray_toList];exact p1⟩) X3 Zw sb
  ·refine G4 (T.item Y rfl rfl rfl ZR i _ s5 _ H5 (fun _ _=>False) YB (Yu Yt) W_ go) ?_;rintro r s6 ⟨u,hr,h6⟩;subst hr;refine G4 h6 ?_;rintro _ s7 ⟨v7,H7,I7,r7,y7,XS,fr7⟩;have I7':=I7.pinned (Yu fr7) (T.obj _ _ XS);have hg:PG Y (.Name x px) (xt 0):=nz (X:=Y) (i:=0) S.nd (by show M[0]? =some x;rw[S.inN];rfl) (Or.inl (lookup_relabel_local S.var)) (.inr (lookup_relabel_local S.var));refine G4 (hg _ s7 _ H7 v7 u (fun σ8 H8=>σ8=some v7::gP u_ σ∧H8=H7) I7' r7 ⟨rfl,rfl⟩) ?_;rintro _ s8 ⟨σ8,H8,I8,e8,e8'⟩;subst e8 e8';refine G4 (ht _ _ _ _ _ _ s8 _ _ _ I8 (step v7 _ y7)) ?_;rintro b s9 ⟨H9,I9,q9⟩
   have tail:∀{σ':St}{H':Hp}{s':Shared},Inv Y ([(s2.heap.objs.size,{ cls:=.type "list",data:=.seq its nn })]++lU fp s7.heap) σ' H' s'→
     tn (i+1) s'.heap∧(∀b∈fp,H' b=none)∧s'.heap.get? s2.heap.objs.size=some { cls:=.type "list",data:=.seq its nn }∧H' s2.heap.objs.size=none:=fun{σ' H' s'} J=>by
    refine⟨T.keep _ _ _ XS fun b hb o e=>(J.pin (b,o) (List.mem_append_right _ (List.mem_append_right _ (eT hb e)))).1,fun b hb=>?_,?_⟩
    ·obtain⟨o,e,d⟩:=T.obj _ _ XS b hb;exact(J.pin (b,o) (List.mem_append_right _ (List.mem_append_right _ (eT hb e)))).2.1
    ·have p:=J.pin (s2.heap.objs.size,{ cls:=.type "list",data:=.seq its nn }) (by simp);exact⟨p.1,p.2.1⟩
   cases b with
   |false=>
    obtain⟨m',hm,w9⟩:=(show∃m',m'<n∧W (i+1) m' acc H9 from by simpa using q9)
    obtain⟨t1,t2,t3,t4⟩:=tail I9;refine⟨m',hm,i+1,acc,H9,its,?_,t1,t2,t4,⟨nn,t3⟩,Xa,Zw,w9⟩
    exact(I9.Oi (K9:=[]) fun p hp=>absurd hp (by simp)).weak (by simp) fun j w z=>by
     cases j with
     |zero=>simp at z
     |succ j=>simpa using z
   |true=>
    have q9':te (some v7::gP u_ σ) H9 fun y H3=>∃m',m'<n∧W (i+1) m' (acc++ [y]) H3:=by simpa using q9
    refine G4 (he _ _ _ _ _ _ s9 _ _ _ I9 q9') ?_;rintro u10 Zc ⟨y,H10,I10,r10,m',hm,w10⟩;obtain⟨t1,t2,t3,t4⟩:=tail I10;have lz:its.size=acc.length:=by rw[Xa.length];simp
    refine wpAny_list_append_plain ⟨nn,t3⟩ (fun h' ZF Zb=>?_) (by omega)
    have I11:Inv Y [] (some v7::gP u_ σ) H10 { Zc with heap:=h',toks:=Zc.toks }:=
     (I10.Oi (K9:=[]) fun p hp=>absurd hp (by simp)).turned (it:=s2.heap.objs.size) (fun b o hb e=>(Zb.2 b hb).trans e) t4 V7 (.inr (abl _)) WM (fun p hp=>absurd (show p∈([]:List (Addr×Obj))from hp) (by simp))
    refine⟨m',hm,i+1,acc++ [y],H10,its.push u10,?_,T.keep _ _ _ t1 (fun b hb o e=>(Zb.2 b (fun z=>Z1 (z▸hb))).trans e),t2,t4,ZF,?_,?_,w10⟩
    ·exact I11.weak (by simp) fun j w z=>by
      cases j with
      |zero=>simp at z
      |succ j=>simpa using z
    ·rw[Array.toList_push];exact Xa.append (.cons r10 .nil)
    ·rw[List.length_append,List.length_singleton];omega
 exact codeAny_compStart_list (loop _ rfl) (T.self X.A 0 _ _ _ (T.keep 0 _ _ VF (fun b hb o e=>old b o e)) (loop _ rfl))
end
section
variable{X:Cx}
def Ky:V→Option Int→Option Int→Hp→VK→Prop:=fun x lo hi H Q=>∃z,x=.str z∧z.length≤sizeLine∧Q (.str (Txt.slice z lo hi)) H
theorem GQ:V9 X Ky:=by
 intro pins s σ H x v vl vu lo hi sl Q I rx hs pl pu h;obtain⟨z,rfl,hz,q⟩:=h;obtain⟨t,rfl⟩:=rx;refine⟨"str",_,PySem.F.slot_str_getitem.lookup,typeIs_str _ _ _,?_⟩;have fin:∀t' k,EP X pins σ Q (.str (Txt.slice z lo hi) t') { s with toks:=k }:=fun t' k=>⟨.str _,H,I.tok k,⟨t',rfl⟩,q⟩
 obtain⟨o,e,c,d⟩:=hs
 cases pl with
 |none=>cases pu with
  |none=>exact wpAny_getItem_str_slice (l:=none) (u:=none) (st:=none) ⟨o,e,c,d⟩ rfl (post_val_or_str ⟨Nat.le_trans (Txt.slice_le z _ _) hz,fin⟩)
  |int j u=>exact wpAny_getItem_str_slice (l:=none) (u:=some (j,u)) (st:=none) ⟨o,e,c,d⟩ rfl (post_val_or_str ⟨Nat.le_trans (Txt.slice_le z _ _) hz,fin⟩)
 |int i u1=>cases pu with
  |none=>exact wpAny_getItem_str_slice (l:=some (i,u1)) (u:=none) (st:=none) ⟨o,e,c,d⟩ rfl (post_val_or_str ⟨Nat.le_trans (Txt.slice_le z _ _) hz,fin⟩)
  |int j u=>exact wpAny_getItem_str_slice (l:=some (i,u1)) (u:=some (j,u)) (st:=none) ⟨o,e,c,d⟩ rfl (post_val_or_str ⟨Nat.le_trans (Txt.slice_le z _ _) hz,fin⟩)
theorem nP:∀{ys:List Str}{us:List Value},aL (ys.map V.str) us→StrsAre us ys
 |[],_,.nil=>.nil
 |y::r,_,.cons h t=>by obtain⟨tk,e⟩:=h;subst e;exact .cons y tk (nP t)
def FY(K:W.Frag):V→List V→Hp→VK→Prop:=fun x xs H Q=>∃sep p ys,x=.str sep∧xs= [.ref p]∧O4 K H p (ys.map V.str)∧(ys.map (·.length)).sum+ys.length * sep.length≤16777216∧Q (.str (Txt.join sep ys)) H
theorem iJ:MtR X "str.join" (FY X.K):=by
 intro pins s σ H x xs v us Q I rx rv h;obtain⟨sep,p,ys,rfl,rfl,hp,hz,q⟩:=h;obtain⟨t,rfl⟩:=rx;obtain⟨u,rfl,ru⟩:=rv.one
 cases ru
 obtain⟨its,r,pl,_⟩:=I.list hp;exact join_list pl.isList (by simpa using nP r) hz fun t' k=>⟨.str _,H,I.tok k,⟨t',rfl⟩,q⟩
noncomputable def FW:R2:=fun x y H Q=>∃z k,x=.str z∧y=.int k∧MulOk z k∧Q (.str (Txt.mul z k)) H
theorem vG:Pa X (binaryOp .Mult) FW:=by intro pins s σ H x y v u Q I rx ry h;obtain⟨z,k,rfl,rfl,hk,q⟩:=h;obtain⟨t,rfl⟩:=rx;obtain⟨t2,rfl⟩:=ry;exact SB.mul hk fun t' c=>⟨.str _,H,I.tok c,⟨t',rfl⟩,q⟩
end
theorem fx{H:Hp}{p:Addr}(h:H p=none)(o:HO):cA H (upd H p o):=fun b u q=>by rw[aj (ar q h)];exact q
theorem cA.QB{K:W.Frag}{H H':Hp}{a:Addr}{xs:List V}(e:cA H H')(h:PN K H a xs):PN K H' a xs:=by
 rcases h with(h|⟨o,h⟩)|h
 ·exact .inl (.inl (e _ _ h))
 ·exact .inl (.inr ⟨o,e _ _ h⟩)
 ·exact .inr h
theorem di{α:Type}{xs:List α}{j:Int}{v:α}(h0:0≤j)(h:xs[j.toNat]? =some v):QW xs j=some v:=by obtain⟨k,rfl⟩:=Int.eq_ofNat_of_zero_le h0;exact Ft (by simpa using h)
open PySem.W
section
variable{X:Cx}
theorem ol{elt iter:Expr}{x:Str}{px:Pos}{ifs:List Expr}{scope:Scope}{pos:Pos}{wi:TI}{y:Str}{py U_:Pos}{iy:Nat}{tt:TT}{te:TE}{M:List Str}(u_:List Nat)(QG:X.calm=true)(S:dj X.N X.env.scope scope u_ x M)
  (hi:PI X (.Name x px) iter wi) (ht:∀cl C ex s H,PFs (eh X M scope cl C ex s H) ifs tt) (he:∀cl C ex s H,PE (eh X M scope cl C ex s H) elt te)
  (ZV:X.N.Nodup) (hy:X.N[iy]? =some y) (YL:X.env.scope.names.lookup y=some .local) (Zx:swapsWith (.ListComp elt [⟨.Name x px,iter,ifs,0⟩] scope pos) (some (.Name y py)) U_.line X.env=pure true)
  (hs:∀y,foldedSetIterable iter X.env y=pure y:=by intro _;rfl):PS X (.Assign [.Name y py] (.ListComp elt [⟨.Name x px,iter,ifs,0⟩] scope pos) U_) (fun D σ H=>zF u_ wi tt te σ H fun v H1=>D.nx (σ.set iy (some v)) H1):=by
 intro pins s σ H D I h;rw[exec_Assign_Name_used _ _ _ _ Zx];refine wpAny_bind<|wpAny_standAt<|wpAny_bind ?_
 show wpAny _ X.A (comprehension (.ListComp elt [⟨.Name x px,iter,ifs,0⟩] scope pos) scope X.env _ (newList []) false (eval iter X.env) (some (assign (.Name y py) X.env)) >>= fun _=>pure ()) _ _ s;refine wpAny_bind<|wpAny_mono (wpAny_comprehension_free (use:=some (assign (.Name y py) X.env)) (Q:=fun _ s'=>SP X pins D .next s') rfl hs (kc fun n hn=>I.ok.has n (S.free _ hn rfl)) S.kind S.names ?_) (fun _ _ z=>wpAny_pure (wpAny_pure z)) fun _ _ z=>z
 refine G4 (hi pins s σ H _ I h) fun v s1 h1=>G4 h1 fun itv s2 h2=>?_;obtain⟨it,fp,tn,J,H2,e,I2,T,VF,f2,W,⟨m0,w0⟩,turn⟩:=h2;subst e;refine wpAny_newObj_type (wpAny_newFunctionEnv S.T3 (by intro y hy;simp at hy) (fun h₁ Vk T5=>?_) S.kind);dsimp only at Vk T5 ⊢;generalize hH2:s2.heap.push { cls:=.type "list",dict:=none,data:=.seq ([]:List Value).toArray }=P2 at Vk T5 ⊢;have Yq:P2.objs.size=s2.heap.objs.size+1:=by rw[← hH2,Heap.size_push]
 have V7:s2.heap.objs.size≠P2.objs.size:=by rw[Yq];exact Nat.ne_of_lt (Nat.lt_succ_self _)
 have S9:s2.heap.objs.size≤P2.objs.size:=by rw[Yq];exact Nat.le_succ _
 have below:∀b,b<s2.heap.objs.size→b≠P2.objs.size:=fun b hb=>by rw[Yq];exact Nat.ne_of_lt (Nat.lt_succ_of_lt hb)
 have old:∀b o,s2.heap.get? b=some o→h₁.get? b=some o:=fun b o e=>T5.extBut b o (below b (Heap.lt_size e)) (Heap.get?_push_of_some _ (hH2▸Heap.get?_push_of_some _ e));have Yo:h₁.PlainList s2.heap.objs.size #[]:=⟨_,T5.extBut _ _ V7 (Heap.get?_push_of_some _ (hH2▸Heap.get?_push_size _ rfl))⟩
 have Yv:∀b∈fp,∃o,s2.heap.get? b=some o∧∀v,o.data≠.cell v:=T.obj 0 _ VF
 have Z1:s2.heap.objs.size∉fp:=fun hb=>by obtain⟨o,e,_⟩:=Yv _ hb;exact absurd (Heap.lt_size e) (Nat.lt_irrefl _)
 have hDs:∀{c:Addr}{o:Obj},s2.heap.get? c=some o→c≠s2.heap.objs.size:=fun e=>Nat.ne_of_lt (Heap.lt_size e)
 let Y:Cx:=eh X M scope (eA X.env.cells scope.names []) P2.objs.size fp s2 H2
 have I4:Inv Y [] (none::gP u_ σ) H2 { s2 with heap:=h₁,toks:=s2.toks+([]:List (Str×Value)).length }:=
  oK S QG I2 f2 (fun b hb=>let⟨o,e,_⟩:=Yv b hb;⟨o,e⟩) S9 rfl I2.bare old Vk
 have fpY:∀{K9:List (Addr×Obj)}{H':Hp},(∀b∈fp,H' b=none)→(∀p∈K9,p.1∉fp)→∀b∈fp,iX Y K9 H' b:=fun{K9 H'} hn hp b hb=>by
  obtain⟨o,e,_⟩:=Yv b hb;refine⟨hn b hb,below b (Heap.lt_size e),fun hs=>?_,.inl hb,fun y c h=>(f2 b hb).2.2.2.2.1 y c (eU h).1,fun p hp' z=>hp p (show p∈K9 from by have q:p∈ []++K9:=hp';simpa using q) (by rw[z];exact hb)⟩;rcases List.mem_cons.mp (I2.SJ b hs)with z|z
  ·exact(f2 b hb).2.1 z
  ·exact(f2 b hb).2.2.1 z
 have Dfs:s2.heap.objs.size∉Y.fs:=fun hs=>by obtain⟨_,o,ho,_⟩:=I2.stack.mem hs;exact absurd (Heap.lt_size ho) (Nat.lt_irrefl _)
 have WM:∀y c,Y.env.cells.lookup y=some c→c≠s2.heap.objs.size:=fun y c h z=>by obtain⟨v,q⟩:=I2.cell y c (eU h).1;rw[z]at q;exact absurd q.lt (Nat.lt_irrefl _)
 have loop:∀s₃:Shared,s₃={ s2 with heap:=h₁,toks:=s2.toks+([]:List (Str×Value)).length }→
   codeAny (model X.prog X.w) X.A (.compLoop (.ListComp elt [⟨.Name x px,iter,ifs,0⟩] scope pos) 0 (.ref it) (.ref s2.heap.objs.size) (compEnvC scope (eA X.env.cells scope.names []) P2.objs.size X.env))
    (compPost (model X.prog X.w) X.A X.xe (some (assign (.Name y py) X.env)) (fun _ s'=>SP X pins D .next s') (.ref s2.heap.objs.size) P2.objs.size) s₃:=by
  rintro s₃ rfl
  refine lC (fun n s'=>∃i acc H' its,Inv Y [] (none::gP u_ σ) H' s'∧tn i s'.heap∧(∀b∈fp,H' b=none)∧H' s2.heap.objs.size=none∧s'.heap.PlainList s2.heap.objs.size its∧aL acc its.toList∧acc.length≤sizeLine∧W i n acc H') ?_ m0
   ⟨0,[],H2, #[],I4,T.keep 0 _ _ VF (fun b hb o e=>old b o e),fun b hb=>(f2 b hb).1,I2.hok.fresh (abl _),Yo,.nil,Nat.zero_le _,w0⟩
  rintro n s5 ⟨i,acc,H5,its,I5,W_,Yt,Yp,hl5,Xa,Zw,w5⟩
  have ZR:Y.calm=true:=rfl;obtain⟨nn,el5⟩:=hl5
  have YB:Inv Y [(s2.heap.objs.size,{ cls:=.type "list",data:=.seq its nn })] (none::gP u_ σ) H5 s5:=I5.Oi fun p hp=>by
   have e:p=(s2.heap.objs.size,{ cls:=.type "list",data:=.seq its nn }):=by simpa using hp
   subst e;exact⟨el5,Yp,V7,Dfs,fun v z=>by cases z⟩
  have Yu:∀{H':Hp},(∀b∈fp,H' b=none)→∀b∈fp,iX Y [(s2.heap.objs.size,{ cls:=.type "list",data:=.seq its nn })] H' b:=fun hn=>fpY hn fun p hp=>by
   have e:p=(s2.heap.objs.size,{ cls:=.type "list",data:=.seq its nn }):=by simpa using hp
   subst e;exact Z1
  have X3:aL acc its.toList:=Xa;rcases turn i n acc H5 w5 with⟨stop,qn⟩|⟨go,U7,step⟩
  ·refine G4 (T.done Y rfl rfl rfl ZR i _ s5 _ H5 (fun _ _=>False) YB (Yu Yt) W_ stop) ?_;rintro r s6 ⟨hr,I6⟩;subst hr;obtain⟨m6,hn6,_⟩:=id I6.loc;obtain⟨p1,p2,_⟩:=I6.pin (s2.heap.objs.size,{ cls:=.type "list",data:=.seq its nn }) (by simp);have J0:Inv X pins σ (upd H5 s2.heap.objs.size (.lst acc)) s6:=qH (its:=its.toList) (Yr:=s6.heap) I2 f2 I6 S9 (abl _) V7 Yp (show s6.heap.PlainList s2.heap.objs.size its.toList.toArray from⟨nn,by rw[Array.toArray_toList];exact p1⟩) X3 Zw ⟨rfl,fun _ _=>rfl⟩;obtain⟨oC,esC,epC,gC,dC,Zd⟩:=hn6;have c1:P2.objs.size≠X.env.locals:=fun z=>absurd (Nat.lt_of_lt_of_le I2.lt S9) (by rw[z];exact Nat.lt_irrefl _);have c2:upd H5 s2.heap.objs.size (.lst acc) P2.objs.size=none:=by rw[aj (Ne.symm V7)];exact I6.free
   have c3:P2.objs.size∉X.fs:=I2.Zo S9
   have J1:Inv X ((P2.objs.size,oC)::pins) σ (upd H5 s2.heap.objs.size (.lst acc)) s6:=J0.Oi fun p hp=>by
    rcases List.mem_cons.mp hp with z|z
    ·subst z;exact⟨gC,c2,c1,c3,fun v z=>by rw[dC]at z;cases z⟩
    ·exact J0.pin p (List.mem_append_right _ z)
   have hg:=nz (X:=X) (i:=iy) (pos:=py) ZV hy (Or.inl YL) (.inr YL);refine G4 (hg _ s6 σ _ (.ref s2.heap.objs.size) (.ref s2.heap.objs.size) (fun σ' H'=>σ'=σ.set iy (some (.ref s2.heap.objs.size))∧H'=upd H5 s2.heap.objs.size (.lst acc)) J1 rfl ⟨rfl,rfl⟩) ?_;rintro _ s7 ⟨σ7,H7,I7,e7,e8⟩;subst e7 e8;refine⟨m6,⟨oC,esC,epC,(I7.pin (P2.objs.size,oC) (by simp)).1,dC,Zd⟩,fun h' sb=>?_⟩;have same:∀b,b≠P2.objs.size→h'.get? b=s7.heap.get? b:=fun b hb=>sb.2 b hb;have I8:Inv X pins (σ.set iy (some (.ref s2.heap.objs.size))) (upd H5 s2.heap.objs.size (.lst acc)) s7:=I7.Oi fun p hp=>I7.pin p (List.mem_append_right _ (List.mem_cons_of_mem _ hp));refine⟨_,_,I8.call' (s':={ s7 with heap:=h' }) (ch:=[P2.objs.size]) rfl ⟨fun b o q n hb hx=>?_,fun b o q n hb hx=>?_,fun b o q n hx=>n,fun b o q hx=>?_,fun b xs q=>q,fun b o u q=>q,fun b ps q=>⟨#[],by simpa using q⟩⟩ (fun b u e=>?_) I8.bare fun b hb=>?_,qn _ Yp⟩
   ·exact(same b (fun z=>hx (by rw[z];exact List.mem_singleton_self _))).trans q
   ·exact⟨o.slots,(same b (fun z=>hx (by rw[z];exact List.mem_singleton_self _))).trans q⟩
   ·exact⟨o,(same b (fun z=>hx (by rw[z];exact List.mem_singleton_self _))).trans q⟩
   ·refine(show bq X.prog X.w _ s7.heap b u from I8.hok b u e).stay (fun c v hc q=>(same c ?_).trans q) (fun _ q=>q) fun _ _ q=>q;rcases hc with z|z
    ·rw[z];intro z2;rw[z2,c2]at e;cases e
    ·intro z2;rw[z2,c2]at z;cases z
   ·rw[List.mem_singleton.mp hb];refine⟨.inr (Nat.le_trans I2.sz S9),c1,fun x c h z=>?_,fun p hp z=>?_⟩
    ·obtain⟨v,q⟩:=I2.cell x c h;exact absurd (Nat.lt_of_lt_of_le q.lt S9) (by rw[z];exact Nat.lt_irrefl _)
    ·have q:=(I2.pin p hp).1;exact absurd (Nat.lt_of_lt_of_le (Heap.lt_size q) S9) (by rw[z];exact Nat.lt_irrefl _)
  ·refine G4 (T.item Y rfl rfl rfl ZR i _ s5 _ H5 (fun _ _=>False) YB (Yu Yt) W_ go) ?_;rintro r s6 ⟨u,hr,h6⟩;subst hr;refine G4 h6 ?_;rintro _ s7 ⟨v7,H7,I7,r7,y7,XS,fr7⟩;have I7':=I7.pinned (Yu fr7) (T.obj _ _ XS);have hg:PG Y (.Name x px) (xt 0):=nz (X:=Y) (i:=0) S.nd (by show M[0]? =some x;rw[S.inN];rfl) (Or.inl (lookup_relabel_local S.var)) (.inr (lookup_relabel_local S.var));refine G4 (hg _ s7 _ H7 v7 u (fun σ8 H8=>σ8=some v7::gP u_ σ∧H8=H7) I7' r7 ⟨rfl,rfl⟩) ?_;rintro _ s8 ⟨σ8,H8,I8,e8,e8'⟩;subst e8 e8';refine G4 (ht _ _ _ _ _ _ s8 _ _ _ I8 (step v7 _ y7)) ?_;rintro b s9 ⟨H9,I9,q9⟩
   have tail:∀{σ':St}{H':Hp}{s':Shared},Inv Y ([(s2.heap.objs.size,{ cls:=.type "list",data:=.seq its nn })]++lU fp s7.heap) σ' H' s'→
     tn (i+1) s'.heap∧(∀b∈fp,H' b=none)∧s'.heap.get? s2.heap.objs.size=some { cls:=.type "list",data:=.seq its nn }∧H' s2.heap.objs.size=none:=fun{σ' H' s'} J=>by
    refine⟨T.keep _ _ _ XS fun b hb o e=>(J.pin (b,o) (List.mem_append_right _ (List.mem_append_right _ (eT hb e)))).1,fun b hb=>?_,?_⟩
    ·obtain⟨o,e,d⟩:=T.obj _ _ XS b hb;exact(J.pin (b,o) (List.mem_append_right _ (List.mem_append_right _ (eT hb e)))).2.1
    ·have p:=J.pin (s2.heap.objs.size,{ cls:=.type "list",data:=.seq its nn }) (by simp);exact⟨p.1,p.2.1⟩
   cases b with
   |false=>
    obtain⟨m',hm,w9⟩:=(show∃m',m'<n∧W (i+1) m' acc H9 from by simpa using q9)
    obtain⟨t1,t2,t3,t4⟩:=tail I9;refine⟨m',hm,i+1,acc,H9,its,?_,t1,t2,t4,⟨nn,t3⟩,Xa,Zw,w9⟩
    exact(I9.Oi (K9:=[]) fun p hp=>absurd hp (by simp)).weak (by simp) fun j w z=>by
     cases j with
     |zero=>simp at z
     |succ j=>simpa using z
   |true=>
    have q9':te (some v7::gP u_ σ) H9 fun y H3=>∃m',m'<n∧W (i+1) m' (acc++ [y]) H3:=by simpa using q9
    refine G4 (he _ _ _ _ _ _ s9 _ _ _ I9 q9') ?_;rintro u10 Zc ⟨y,H10,I10,r10,m',hm,w10⟩;obtain⟨t1,t2,t3,t4⟩:=tail I10;have lz:its.size=acc.length:=by rw[Xa.length];simp
    refine wpAny_list_append_plain ⟨nn,t3⟩ (fun h' ZF Zb=>?_) (by omega)
    have I11:Inv Y [] (some v7::gP u_ σ) H10 { Zc with heap:=h',toks:=Zc.toks }:=
     (I10.Oi (K9:=[]) fun p hp=>absurd hp (by simp)).turned (it:=s2.heap.objs.size) (fun b o hb e=>(Zb.2 b hb).trans e) t4 V7 (.inr (abl _)) WM (fun p hp=>absurd (show p∈([]:List (Addr×Obj))from hp) (by simp))
    refine⟨m',hm,i+1,acc++ [y],H10,its.push u10,?_,T.keep _ _ _ t1 (fun b hb o e=>(Zb.2 b (fun z=>Z1 (z▸hb))).trans e),t2,t4,ZF,?_,?_,w10⟩
    ·exact I11.weak (by simp) fun j w z=>by
      cases j with
      |zero=>simp at z
      |succ j=>simpa using z
    ·rw[Array.toList_push];exact Xa.append (.cons r10 .nil)
    ·rw[List.length_append,List.length_singleton];omega
 exact codeAny_compStart_list (loop _ rfl) (T.self X.A 0 _ _ _ (T.keep 0 _ _ VF (fun b hb o e=>old b o e)) (loop _ rfl))
end
end L2
set_option autoImplicit false
namespace L2
open PySem
def DK(h h':Heap):Prop:=∀b o,h.get? b=some o→∃o',h'.get? b=some o'∧o'.dict=o.dict
theorem DK.refl(h:Heap):DK h h:=fun _ o e=>⟨o,e,rfl⟩
theorem DK.trans{h1 h2 h3:Heap}(x:DK h1 h2)(y:DK h2 h3):DK h1 h3:=fun b o e=>by obtain⟨o1,e1,d1⟩:=x b o e;obtain⟨o2,e2,d2⟩:=y b o1 e1;exact⟨o2,e2,d2.trans d1⟩
def Kd{α:Type}(t:Sem α):Prop:=∀(M:Model)(Γ:Ctx)(Q:α→Pos→Shared→Prop)(E:Value→Pos→Shared→Prop)(p:Pos)(s:Shared),Sem.wp M Γ t Q E p s→
 Sem.wp M Γ t (fun a p' s'=>Q a p' s'∧DK s.heap s'.heap) (fun e p' s'=>E e p' s'∧DK s.heap s'.heap) p s
section
variable{α β:Type}
theorem Kd.bind{m:Sem α}{f:α→Sem β}(hm:Kd m)(hf:∀a,Kd (f a)):Kd (m >>= f):=fun M Γ Q E p s h=>by rw[Sem.wp_bind']at h ⊢;refine Sem.wp_mono M Γ m (fun a p1 s1 z=>?_) (fun e p1 s1 z=>z) p s (hm M Γ _ _ p s h);exact Sem.wp_mono M Γ (f a) (fun b p2 s2 y=>⟨y.1,z.2.trans y.2⟩) (fun e p2 s2 y=>⟨y.1,z.2.trans y.2⟩) p1 s1 (hf a M Γ Q E p1 s1 z.1)
theorem Kd.pure(a:α):Kd (Pure.pure a:Sem α):=fun M Γ Q E p s h=>by rw[Sem.wp_pure']at h ⊢;exact⟨h,DK.refl _⟩
theorem Kd.WQ(x:String):Kd (unsupported x:Sem α):=fun M Γ Q E p s h=>by rw[show(unsupported x:Sem α)=.unsupported x from rfl,Sem.wp_unsupported]at h;exact h.elim
theorem Kd.load(a:Addr):Kd (PySem.load a):=fun M Γ Q E p s h=>by rw[show PySem.load a=.load a none .pure from rfl,Sem.wp_load]at h ⊢;obtain⟨o,h1,h2⟩:=h;rw[Sem.wp_pure]at h2;exact⟨o,h1,by rw[Sem.wp_pure];exact⟨h2,DK.refl _⟩⟩
theorem Kd.stack:Kd PySem.stack:=fun M Γ Q E p s h=>by rw[show PySem.stack=.stack .pure from rfl,Sem.wp_stack,Sem.wp_pure]at h ⊢;exact⟨h,DK.refl _⟩
theorem Kd.alloc(o:Obj):Kd (PySem.alloc o):=fun M Γ Q E p s h=>by rw[show PySem.alloc o=.alloc o .pure from rfl,Sem.wp_alloc,Sem.wp_pure]at h ⊢;exact⟨h,fun b o' e=>⟨o',Heap.get?_push_of_some _ e,rfl⟩⟩
theorem Kd.update{a:Addr}{f:Obj→Obj}(hf:∀o,o.isFreed=false→(f o).isFreed=false∧(f o).dict=o.dict):Kd (PySem.update a f):=fun M Γ Q E p s h=>by
 rw[show PySem.update a f=.update a none f .pure from rfl,Sem.wp_update]at h ⊢;obtain⟨h1,h2⟩:=h;rw[Sem.wp_pure]at h2;refine⟨h1,?_⟩;rw[Sem.wp_pure];refine⟨h2,fun b o e=>?_⟩
 by_cases hb:a=b
 ·subst hb;obtain⟨z1,z2⟩:=hf o (Heap.get?_some_iff.mp e).2;exact⟨f o,Heap.get?_update_self f e z1,z2⟩
 ·exact⟨o,(Heap.get?_update_other _ _ hb).trans e,rfl⟩
theorem Kd.ite{c:Prop}[Decidable c]{t u:Sem α}(ht:Kd t)(hu:Kd u):Kd (if c then t else u):=by
 split
 ·exact ht
 ·exact hu
theorem uo(v:Value):Kd (fieldsOf v):=by
 unfold fieldsOf
 split
 ·refine(Kd.load _).bind fun o=>?_
  split
  ·exact Kd.pure _
  ·exact Kd.WQ _
 ·exact Kd.WQ _
theorem lh(v:Value)(i:Nat):Kd (field v i):=by
 refine(uo v).bind fun vs=>?_
 split
 ·exact Kd.pure _
 ·exact Kd.WQ _
theorem mL(g:Array Value→Array Value)(o:Obj)(h:o.isFreed=false):(Obj.mapFields g o).isFreed=false∧(Obj.mapFields g o).dict=o.dict:=by
 unfold Obj.mapFields
 split
 ·exact⟨rfl,rfl⟩
 ·exact⟨h,rfl⟩
theorem jr(v:Value)(i:Nat)(x:Value):Kd (setField v i x):=by
 unfold setField
 split
 ·unfold updateField;refine(Kd.load _).bind fun o=>?_
  split
  ·exact Kd.ite (Kd.update fun o h=>mL _ o h) (Kd.WQ _)
  ·exact Kd.WQ _
 ·exact Kd.WQ _
theorem iK(e:Value)(f:Option Addr):Kd (setFlight e f):=by refine(lh e 1).bind fun tb=>?_;exact Kd.ite (jr _ _ _) (Kd.pure _)
theorem rW(ty:String)(vs:List Value):Kd (newFields ty vs):=by
 unfold newFields newObj
 have as:Kd (newObjAsIs (.type ty) (.fields vs.toArray) none):=by unfold newObjAsIs;exact(Kd.alloc _).bind fun _=>Kd.pure _
 dsimp only
 split
 ·exact(Kd.WQ _).bind fun _=>as
 ·exact as
theorem jt:∀l:List Env,Kd (readyFrames l)
 |[]=>Kd.pure _
 |env::outer=>by
  unfold readyFrames
  split
  ·refine(Kd.load _).bind fun o=>Kd.ite (Kd.pure _) ?_;refine Kd.bind ?_ fun i=>Kd.bind ?_ fun b=>Kd.bind (Kd.update fun o h=>⟨?_,rfl⟩) fun _=>jt outer
   ·unfold behindIsImport;exact Kd.ite (Kd.pure _) (Kd.ite (Kd.pure _) ((lh _ _).bind fun _=>Kd.pure _))
   ·unfold keptBack
    split
    ·refine Kd.ite (Kd.pure _) ?_;exact Kd.bind (Kd.stack.bind fun _=>Kd.pure _) fun _=>Kd.pure _
    ·exact Kd.pure _
   ·obtain⟨c,d,dt,s0⟩:=o
    cases dt<;>first|rfl|(simp[Obj.isFreed]at h)
  ·exact Kd.WQ _
theorem vS(env:Env):Kd (frameOf env):=by
 unfold frameOf;refine Kd.bind (Kd.stack.bind fun _=>Kd.pure _) fun l=>Kd.bind ?_ fun o=>?_
 ·unfold frameObject
  split
  ·exact Kd.pure _
  ·exact(jt _).bind fun _=>Kd.pure _
 ·split
  ·exact Kd.pure _
  ·exact Kd.WQ _
theorem mM(f:Addr)(b:Bool):Kd (entryPlaceOf f b):=by
 unfold entryPlaceOf;refine Kd.stack.bind fun _=>?_
 split
 ·exact Kd.pure _
 ·exact Kd.pure _
theorem lf(e:Value)(env:Env):Kd (noteFrame e env):=by
 unfold noteFrame
 split
 ·have go:∀hd:Value,∀f:Addr,Kd (do setField e 1 (← EntryCells.newEntry hd (← frameOf env) .none (rawInt f) .none (← entryPlaceOf f (hd != .none)))):=fun hd f=>(vS env).bind fun _=>(mM _ _).bind fun _=>(rW _ _).bind fun _=>jr _ _ _
  refine(lh e 1).bind fun hd=>?_;refine Kd.ite ?_ (go _ _);exact(lh _ _).bind fun x=>Kd.ite (Kd.pure _) ((jr _ _ _).bind fun _=>go _ _)
 ·exact Kd.WQ _
theorem oA(env:Env)(e:Value):Kd (leaving env e):=(lf e env).bind fun _=>iK e none
end
open PySem.Spec PyProof.Rows
theorem bq.there{P:Program}{w:World}{H:Hp}{h:Heap}{a:Addr}{o:HO}(x:bq P w H h a o):∃ob,h.get? a=some ob:=by
 cases o with
 |lst xs=>obtain⟨_,_,_,_,e⟩:=x;exact⟨_,e⟩
 |tup xs=>obtain⟨_,_,_,ob,e,_⟩:=x;exact⟨_,e⟩
 |dK kvs=>obtain⟨_,_,_,_,o,_,_,e,_⟩:=x;exact⟨_,e⟩
 |dT kvs=>obtain⟨_,_,_,_,o,_,_,e,_⟩:=x;exact⟨_,e⟩
 |set S n=>obtain⟨o,_,_,_,e,_⟩:=x;exact⟨_,e⟩
 |ins C dx fs=>obtain⟨_,_,_,e,_⟩:=x;exact⟨_,e⟩
 |own y=>exact x
 |xd fs=>obtain⟨_,⟨_,_,_,e,_⟩,_⟩:=x;exact⟨_,e⟩
 |rng lo hi=>obtain⟨_,_,_,e⟩:=x;exact⟨_,e⟩
 |Rx ob u=>obtain⟨e,_⟩:=x;exact⟨_,e⟩
 |Xo ps=>exact⟨_,show h.get? a=some _ from x⟩
 |met f y=>exact⟨_,show h.get? a=some _ from x⟩
 |ext φ=>obtain⟨_,z,_⟩:=x;exact z
def Cov(l:List Env)(h:Heap)(H':Hp)(B:Heap):Prop:=(∀b o,h.get? b=some o→b∉frs l→∃o',B.get? b=some o')∧∀b u,H' b=some u→∃o',B.get? b=some o'
def pK(h:Heap)(a:Addr)(dx:Option Addr):Prop:=∃o,h.get? a=some o∧o.dict=dx
theorem pK.on{h h':Heap}{a:Addr}{dx:Option Addr}(x:pK h a dx)(k:DK h h'):pK h' a dx:=by obtain⟨o,e,d⟩:=x;obtain⟨o',e',d'⟩:=k a o e;exact⟨o',e',d'.trans d⟩
theorem vT{α:Type}{M:Model}{A:Around}{t:Sem α}{Q Q':α→Shared→Prop}{E E':Value→Shared→Prop}{s:Shared}(k:Kd t)(h:wpAny M A t Q E s)(hq:∀a s',Q a s'→DK s.heap s'.heap→Q' a s')(he:∀e s',E e s'→E' e s'):wpAny M A t Q' E' s:=
 fun Γ p hΓ=>Sem.wp_mono M Γ t (fun a _ s' z=>hq a s' z.1 z.2) (fun e _ s' z=>he e s' z.1) p s (k M Γ _ _ p s (h Γ p hΓ))
theorem Bw{α:Type}{M:Model}{A:Around}{t:Sem α}{Q:α→Shared→Prop}{E:Value→Shared→Prop}{s:Shared}{a:Addr}{dx:Option Addr}(k:Kd t)(d:pK s.heap a dx)(h:wpAny M A t (fun x s'=>pK s'.heap a dx→Q x s') E s):wpAny M A t Q E s:=
 vT k h (fun _ _ q dk=>q (d.on dk)) fun _ _ z=>z
def PB(P:Program)(w:World):Vq:=fun outer H s E e s'=>∃(a:Addr)(cls a0:Value)(B:Heap)(H':Hp)(dx:Option Addr),e=.ref a∧s'.os=s.os∧AllBare s'.gens∧Un (frs outer) [] H H' s.heap s'.heap∧Ql P w H' s'.heap∧Heap.FlyingW B outer a cls a0 s'.heap∧Cov outer s.heap H' B∧pK s'.heap a dx∧E cls dx H'
section
variable{X:Cx}{pins:List (Addr×Obj)}{σ:St}{H:Hp}{s:Shared}{E:XK}
theorem ml(stk:X.stack=X.env::X.outer)(hf:X.env.frame=some X.env.locals){b:Addr}:b∈frs X.stack↔b=X.env.locals∨b∈X.fs:=by rw[stk];unfold frs;rw[List.filterMap_cons,hf];exact List.mem_cons
theorem iL{base h:Heap}{l:List Env}(f:h.FunFrames base l){b:Addr}(hb:b∈frs l):∃o,h.get? b=some o∧∀vs,o.data≠.fields vs:=(f.mem hb).2
noncomputable def del(H:Hp)(e:Addr):Hp:=fun b=>if b=e then none else H b
theorem iN{H:Hp}{e b:Addr}(n:b≠e):del H e b=H b:=if_neg n
theorem oJ{H:Hp}{e:Addr}:del H e e=none:=if_pos rfl
theorem yK{M:Model}{e:Addr}{o:Obj}{vs:Array Value}{a0:Value}{φ:Heap→Prop}{Ee:Value→Shared→Prop}(I:Inv X pins σ H s)(stk:X.stack=X.env::X.outer)(hf:X.env.frame=some X.env.locals)(hex:X.ex= [])
  (ho:s.heap.get? e=some o) (hd:o.data=.fields vs) (h0:vs[0]? =some a0) (h1:vs[1]? =some .none) (hH:H e=some (.ext φ)) (new:X.s₀.heap.get? e=none) (hE:E o.cls o.dict (del H e)):
  wpAny M X.A (leaving X.env (.ref e)) (fun _ TQ=>PB X.prog X.w X.outer X.H₀ X.s₀ E (.ref e) TQ) Ee s:=by
 have ZJ:X.A.frames=some (X.env::X.outer):=by rw[I.ok.frames,stk]
 have ne:e∉frs X.stack:=fun z=>by rw[I.Ro e z]at hH;cases hH
 have inB:∀b ob,s.heap.get? b=some ob→b∉frs X.stack→b≠e→(W.hideAll s.heap (e::frs X.stack)).get? b=some ob:=fun b ob q n n2=>W.hideAll_get _ q (by simp[n,n2])
 have fr2:s.heap.FunFrames (W.hideAll s.heap (e::frs X.stack)) (X.env::X.outer):=by have:=W.funFrames_hide (as:=e::frs X.stack) I.stack (fun env he a ha=>List.mem_cons_of_mem _ (List.mem_filterMap.mpr ⟨env,he,ha⟩));rw[stk]at this ⊢;exact this
 have eB:(W.hideAll s.heap (e::frs X.stack)).get? e=none:=W.hideAll_none _ (by simp);refine vT (Q:=fun _ TQ=>pK TQ.heap e o.dict→PB X.prog X.w X.outer X.H₀ X.s₀ E (.ref e) TQ) (oA _ _) (wpAny_leaving_firstW (base:=W.hideAll s.heap (e::frs X.stack)) ZJ fr2 hf ho (fun b ob q=>W.of_hideAll _ q) eB hd h1 h0 fun h2 L dxa=>?_) (fun _ TQ q dk=>q (pK.on ⟨o,ho,rfl⟩ dk)) fun _ _ z=>z;obtain⟨k1,⟨_,_,kf⟩,kt,up⟩:=L;have k2:∀b ob,s.heap.get? b=some ob→b∉frs X.stack→b≠e→h2.get? b=some ob:=fun b ob q n n2=>k1 b ob (inB b ob q n n2);have Yb:∀b ob,X.s₀.heap.get? b=some ob→b≠X.env.locals:=fun b ob q=>Nat.ne_of_lt (Nat.lt_of_lt_of_le (Heap.lt_size q) I.ok.above);have neE:∀b ob,X.s₀.heap.get? b=some ob→b≠e:=fun b ob q z=>by subst z;rw[new]at q;cases q
 have base:=I.base;rw[hex]at base;refine⟨e,o.cls,a0,_,del H e,o.dict,rfl,I.os,I.bare,⟨fun b ob q n hb hx=>?_,fun b ob q n hb hx=>?_,fun b ob q n hx=>?_,fun b ob q hx=>?_,fun b xs q=>?_,fun b ob u q=>?_,fun b ps q=>?_⟩,fun b u q=>?_,⟨k1,eB,kf,kt⟩,⟨fun b ob q n=>?_,fun b u q=>?_⟩,dxa,hE⟩
 ·refine k2 b ob (base.keep b ob q n hb hx) (fun z=>?_) (neE b ob q);rcases(ml stk hf).mp z with z|z
  ·exact Yb b ob q z
  ·exact hb z
 ·obtain⟨sl,e1⟩:=base.slot b ob q n hb hx;obtain⟨o2,q2,d2⟩:=iL I.stack ((ml stk hf).mpr (.inr hb));rw[e1]at q2
  cases q2
  obtain⟨Wb,e2⟩:=up b _ e1 d2;exact⟨Wb,e2⟩
 ·rw[iN (neE b ob q)];exact base.free b ob q n hx
 ·obtain⟨o',e1⟩:=base.there b ob q hx
  by_cases hb:b∈frs X.stack
  ·obtain⟨o2,q2,d2⟩:=iL I.stack hb;obtain⟨Wb,e2⟩:=up b _ q2 d2;exact⟨_,e2⟩
  ·exact⟨o',k2 b o' e1 hb (neE b ob q)⟩
 ·have z:=base.tups b xs q;rw[iN (fun y=>by subst y;rw[hH]at z;cases z)];exact z
 ·have z:=base.M7 b ob u q;rw[iN (fun y=>by subst y;rw[hH]at z;cases z)];exact z
 ·obtain⟨more,z⟩:=base.Ry b ps q;exact⟨more,by rw[iN (fun y=>by subst y;rw[hH]at z;cases z)];exact z⟩
 ·have nb:b≠e:=fun z=>by subst z;rw[oJ]at q;cases q
  rw[iN nb]at q;refine(I.hok b u q).stay (fun c v hc r=>k2 c v r (fun z=>?_) fun z=>?_) (fun c r=>?_) fun c xs r=>?_
  ·have:=I.Ro c z;rcases hc with rfl|hc
   ·rw[this]at q;cases q
   ·rw[this]at hc;cases hc
  ·subst z;rcases hc with rfl|hc
   ·exact nb rfl
   ·rw[hH]at hc;cases hc
  ·rw[iN (fun y=>by subst y;rw[hH]at r;cases r)];exact r
  ·rw[iN (fun y=>by subst y;rw[hH]at r;cases r)];exact r
 ·obtain⟨o',q'⟩:=I.base.there b ob q (by rw[hex];simp);refine⟨o',inB b o' q' (fun z=>?_) (neE b ob q)⟩;rcases(ml stk hf).mp z with z|z
  ·exact Yb b ob q z
  ·exact n z
 ·have nb:b≠e:=fun z=>by subst z;rw[oJ]at q;cases q
  rw[iN nb]at q;obtain⟨ob,q'⟩:=(I.hok b u q).there;refine⟨ob,inB b ob q' (fun z=>?_) nb⟩;rw[I.Ro b z]at q;cases q
theorem Bf{M:Model}{s':Shared}{e:Value}{Ec:XK}{Ee:Value→Shared→Prop}(I:Inv X pins σ H s)(stk:X.stack=X.env::X.outer)(hf:X.env.frame=some X.env.locals)(hex:X.ex= [])
  (c:PB X.prog X.w X.stack H s Ec e s') (hE:∀cls dx H',Ec cls dx H'→E cls dx H'):
  wpAny M X.A (leaving X.env e) (fun _ TQ=>PB X.prog X.w X.outer X.H₀ X.s₀ E e TQ) Ee s':=by
 obtain⟨a,cls,a0,B,H',dx,rfl,os,bare,un,hok,fl,⟨c1,c2⟩,da,q⟩:=c;have ZJ:X.A.frames=some (X.env::X.outer):=by rw[I.ok.frames,stk]
 have fl0:=fl;rw[stk]at fl;refine vT (Q:=fun _ TQ=>pK TQ.heap a dx→PB X.prog X.w X.outer X.H₀ X.s₀ E (.ref a) TQ) (oA _ _) (wpAny_leaves_onW ZJ hf fl fun h2 fl2 up dxa=>?_) (fun _ TQ q dk=>q (da.on dk)) fun _ _ z=>z;have I2:Inv X pins σ H' s':=I.call' (ch:=[]) os un hok bare (fun b z=>absurd z (by simp));have Yb:∀b o,X.s₀.heap.get? b=some o→b≠X.env.locals:=fun b o q=>Nat.ne_of_lt (Nat.lt_of_lt_of_le (Heap.lt_size q) I.ok.above);have frB:∀b∈frs X.stack,B.get? b=none:=fun b hb=>(fl0.2.2.1.mem hb).1;have base:=I2.base;rw[hex]at base
 have old:∀b o,X.s₀.heap.get? b=some o→b∉X.fs→∃o',B.get? b=some o':=fun b o e n=>by
  obtain⟨o',e'⟩:=I.base.there b o e (by rw[hex];simp);refine c1 b o' e' fun z=>?_;rcases(ml stk hf).mp z with z|z
  ·exact Yb b o e z
  ·exact n z
 refine⟨a,cls,a0,B,H',dx,rfl,?_,bare,⟨fun b o e n hb hx=>?_,fun b o e n hb hx=>?_,base.free,fun b o e hx=>?_,base.tups,base.M7,base.Ry⟩,fun b u e=>?_,fl2,⟨old,c2⟩,dxa,hE _ _ _ q⟩
 ·exact os.trans I.os
 ·have e1:=base.keep b o e n hb hx;obtain⟨o',e2⟩:=old b o e hb;have:=fl0.1 b o' e2;rw[e1]at this
  cases this
  exact fl2.1 b _ e2
 ·obtain⟨sl,e1⟩:=base.slot b o e n hb hx;obtain⟨o2,q2,d2⟩:=iL I2.stack ((ml stk hf).mpr (.inr hb));rw[e1]at q2
  cases q2
  obtain⟨Wb,e2⟩:=up b _ e1 d2;exact⟨Wb,e2⟩
 ·by_cases hb:b∈X.fs
  ·obtain⟨o',e1⟩:=base.there b o e hx;obtain⟨o2,q2,d2⟩:=iL I2.stack ((ml stk hf).mpr (.inr hb));obtain⟨Wb,e2⟩:=up b _ q2 d2;exact⟨_,e2⟩
  ·obtain⟨o',e2⟩:=old b o e hb;exact⟨o',fl2.1 b o' e2⟩
 ·have stay:∀c v,(c=b∨H' c=some (.own b))→s'.heap.get? c=some v→h2.get? c=some v:=fun c v hc r=>by
   have:∃u',H' c=some u':=by
    rcases hc with rfl|hc
    ·exact⟨u,e⟩
    ·exact⟨_,hc⟩
   obtain⟨u',hu⟩:=this;obtain⟨o',e2⟩:=c2 c u' hu;have:=fl0.1 c o' e2;rw[r]at this
   cases this
   exact fl2.1 c _ e2
  exact(hok b u e).stay stay (fun _ r=>r) fun _ _ r=>r
end
def Lv(X:Cx)(E:XK):Prop:=X.stack=X.env::X.outer∧X.env.frame=some X.env.locals∧X.ex= []∧
 ∀e s',wpAny (model X.prog X.w) X.A (leaving X.env e) (fun _ TQ=>PB X.prog X.w X.outer X.H₀ X.s₀ E e TQ) (fun e' TQ=>PB X.prog X.w X.outer X.H₀ X.s₀ E e' TQ) s'→X.xe e s'
theorem jH{P:Program}{w:World}{K:W.Frag}{mg:Str→Option Value}{base:Heap}{N:List Str}{qual:Str}{scope:Scope}{f:Addr}{cd:Value}{A:Around}{outer:List Env}{s:Shared}{H:Hp}{E:XK}:
  Lv (iW (PB P w) P w K mg base N qual scope f cd A outer s H E) E:=⟨rfl,rfl,rfl,fun _ _ h=>h⟩
theorem Lv.passes{X:Cx}{E Ec:XK}(l:Lv X E)(h:∀cls dx H',Ec cls dx H'→E cls dx H'):cg (PB X.prog X.w) X Ec:=fun pins σ H s e s' I c=>l.2.2.2 e s' (Bf I l.1 l.2.1 l.2.2.1 c h)
noncomputable def mr(a:Addr)(cls:Value)(dx:Option Addr):HO:=.ext fun h=>∃o vs,h.get? a=some o∧o.cls=cls∧o.data=.fields vs∧o.dict=dx
section
variable{X:Cx}{pins:List (Addr×Obj)}{σ:St}{H H':Hp}{s s':Shared}{a:Addr}{cls a0:Value}{B h2:Heap}{E:XK}{dx:Option Addr}
theorem EY(I:Inv X pins σ H s)(os:s'.os=s.os)(bare:AllBare s'.gens)(un:Un (frs X.stack) [] H H' s.heap s'.heap)(hok:Ql X.prog X.w H' s'.heap)(fl:Heap.FlyingW B X.stack a cls a0 s'.heap)(cov:Cov X.stack s.heap H' B)
  (st:B.StaysIn h2) (up:s'.heap.UpToSlots h2) (ex:∃o vs,h2.get? a=some o∧o.cls=cls∧o.data=.fields vs∧o.dict=dx):Inv X pins σ (upd H' a (mr a cls dx)) { s' with heap:=h2 }:=by
 obtain⟨c1,c2⟩:=cov
 have na:H' a=none:=by
  cases q:H' a with
  |none=>rfl
  |some u=>obtain⟨o',z⟩:=c2 a u q;rw[fl.2.1]at z;cases z
 have frD:∀b∈frs X.stack,∃o,s'.heap.get? b=some o∧∀vs,o.data≠.fields vs:=fun b hb=>(fl.2.2.1.mem hb).2
 have neA:∀b o,s.heap.get? b=some o→b≠a:=fun b o e z=>by
  subst z
  by_cases hb:b∈frs X.stack
  ·obtain⟨o1,q1,d1⟩:=frD b hb;obtain⟨oe,vs,q2,_,d2,_⟩:=fl.first;rw[q1]at q2
   cases q2
   exact d1 vs d2
  ·obtain⟨o',z⟩:=c1 b o e hb;rw[fl.2.1]at z;cases z
 have eqB:∀b o o',s'.heap.get? b=some o→B.get? b=some o'→h2.get? b=some o:=fun b o o' e z=>by
  have:=fl.1 b o' z;rw[e]at this
  cases this
  exact st b _ z
 have un2:Un (frs X.stack) [] H (upd H' a (mr a cls dx)) s.heap h2:=by
  refine⟨fun b o e n hb hx=>?_,fun b o e n hb hx=>?_,fun b o e n hx=>?_,fun b o e hx=>?_,fun b xs e=>?_,fun b o u e=>?_,fun b ps e=>?_⟩
  ·obtain⟨o',z⟩:=c1 b o e hb;exact eqB b o o' (un.keep b o e n hb hx) z
  ·obtain⟨sl,e1⟩:=un.slot b o e n hb hx;obtain⟨o1,q1,d1⟩:=frD b hb;rw[e1]at q1
   cases q1
   obtain⟨Wb,e2⟩:=up b _ e1 d1;exact⟨Wb,e2⟩
  ·rw[aj (neA b o e)];exact un.free b o e n hx
  ·by_cases hb:b∈frs X.stack
   ·obtain⟨o1,q1,d1⟩:=frD b hb;obtain⟨Wb,e2⟩:=up b _ q1 d1;exact⟨_,e2⟩
   ·obtain⟨o',z⟩:=c1 b o e hb;exact⟨o',st b o' z⟩
  ·have:=un.tups b xs e;rw[aj (ar this na)];exact this
  ·have:=un.M7 b o u e;rw[aj (ar this na)];exact this
  ·obtain⟨more,z⟩:=un.Ry b ps e;exact⟨more,by rw[aj (ar z na)];exact z⟩
 have abt:Ql X.prog X.w (upd H' a (mr a cls dx)) h2:=fun b u e=>by
  by_cases hb:b=a
  ·subst hb;rw[aA]at e
   cases e
   obtain⟨o,vs,q1,q2⟩:=ex;exact⟨⟨o,vs,q1,q2⟩,⟨o,q1⟩,(by rintro h1 h3 ⟨o,vs,r1,r2⟩ k;exact ⟨o,vs,k o r1,r2⟩)⟩
  ·rw[aj hb]at e;refine(hok b u e).stay (fun c v hc r=>?_) (fun c r=>?_) fun c xs r=>?_
   ·have:∃u',H' c=some u':=by
     rcases hc with rfl|hc
     ·exact⟨u,e⟩
     ·exact⟨_,hc⟩
    obtain⟨u',hu⟩:=this;obtain⟨o',z⟩:=c2 c u' hu;exact eqB c v o' r z
   ·rw[aj (ar r na)];exact r
   ·rw[aj (ar r na)];exact r
 exact I.call' (s':={ s' with heap:=h2 }) (ch:=[]) os un2 abt bare (fun b z=>absurd z (by simp))
theorem Inv.lost{m':Str→Option Value}{t':Nat}(I:Inv X pins σ H s)(ns:h2.Ns X.env.locals m')(sb:Heap.SameBut X.env.locals s.heap h2):Inv X pins (List.replicate X.N.length none) H { s with heap:=h2,toks:=t' }:=by
 obtain⟨m,⟨oL,esL,epL,hoL,rL⟩,_⟩:=id I.loc;have ne0:∀b o,X.s₀.heap.get? b=some o→b≠X.env.locals:=fun b o q=>Nat.ne_of_lt (Nat.lt_of_lt_of_le (Heap.lt_size q) I.ok.above);refine⟨I.ok,I.os,I.bare,⟨fun b o e n hb hx=>?_,fun b o e n hb hx=>?_,I.base.free,fun b o e hx=>?_,I.base.tups,I.base.M7,I.base.Ry⟩,⟨m',ns,fun i x v _ e _=>?_⟩,fun x c e=>?_,I.free,I.Oz,fun p hp=>?_,fun b u e=>?_,by simp⟩
 ·exact(sb.2 b (ne0 b o e)).trans (I.base.keep b o e n hb hx)
 ·obtain⟨sl,e1⟩:=I.base.slot b o e n hb hx;exact⟨sl,(sb.2 b (ne0 b o e)).trans e1⟩
 ·obtain⟨o',e1⟩:=I.base.there b o e hx;exact⟨o',(sb.2 b (ne0 b o e)).trans e1⟩
 ·rw[List.getElem?_replicate]at e
  split at e<;>cases e
 ·obtain⟨v,o,ho,hd⟩:=I.cell x c e;exact⟨v,o,(sb.2 c (I.XC x c e)).trans ho,hd⟩
 ·obtain⟨e,n,ne,nf,d⟩:=I.pin p hp;exact⟨(sb.2 p.1 ne).trans e,n,ne,nf,d⟩
 ·refine(I.hok b u e).stay (fun c v hc r=>(sb.2 c ?_).trans r) (fun _ r=>r) fun _ _ r=>r
  rintro rfl
  rcases hc with z|z
  ·rw[← z,I.free]at e;cases e
  ·rw[I.free]at z;cases z
end
abbrev Cx.tried(X:Cx)(pn:List (Addr×Obj))(W:Value→Shared→Prop):Cx:={ X with pn:=pn,xe:=W }
abbrev Cx.suite(X:Cx)(pn:List (Addr×Obj))(a:Addr):Cx:={ X with pn:=pn,xe:=fun _ _=>False,A:=X.A.mark (some (.ref a)),calm:=false }
section
variable{X:Cx}{pins pn:List (Addr×Obj)}{σ:St}{H:Hp}{s:Shared}{W:Value→Shared→Prop}{a:Addr}
theorem AT(k:X.Ok):(X.tried pn W).Ok:=⟨k.mod,k.kind,k.glob,k.blt,k.above,k.inj,k.has,k.cab,k.hd,k.frames,k.stk,k.YS,k.bs,k.Vz,k.TY,k.UG,k.QJ,k.V8⟩
theorem vJ(k:(X.tried pn W).Ok):X.Ok:=⟨k.mod,k.kind,k.glob,k.blt,k.above,k.inj,k.has,k.cab,k.hd,k.frames,k.stk,k.YS,k.bs,k.Vz,k.TY,k.UG,k.QJ,k.V8⟩
theorem AU(k:X.Ok):(X.suite pn a).Ok:=⟨k.mod,k.kind,k.glob,k.blt,k.above,k.inj,k.has,k.cab,fun z=>Bool.noConfusion z,k.frames,k.stk,k.YS,k.bs,k.Vz,k.TY,k.UG,k.QJ,k.V8⟩
theorem qw(I:Inv X pins σ H s):Inv (X.tried (X.pn++pins) W) [] σ H s:=⟨AT I.ok,I.os,I.bare,I.base,I.loc,I.cell,I.free,I.Oz,fun p hp=>I.pin p (by simpa using hp),I.hok,I.len⟩
theorem fC(k:X.Ok)(I:Inv (X.tried (X.pn++pins) W) [] σ H s):Inv X pins σ H s:=⟨k,I.os,I.bare,I.base,I.loc,I.cell,I.free,I.Oz,fun p hp=>I.pin p (by simpa using hp),I.hok,I.len⟩
theorem yU(I:Inv (X.tried pn W) [] σ H s):Inv (X.suite pn a) [] σ H s:=⟨AU (vJ I.ok),I.os,I.bare,I.base,I.loc,I.cell,I.free,I.Oz,I.pin,I.hok,I.len⟩
theorem uB(k:X.Ok)(I:Inv (X.suite (X.pn++pins) a) [] σ H s):Inv X pins σ H s:=⟨k,I.os,I.bare,I.base,I.loc,I.cell,I.free,I.Oz,fun p hp=>I.pin p (by simpa using hp),I.hok,I.len⟩
theorem vn{D:mQ}{f:Flow}(k:X.Ok)(h:SP (X.tried (X.pn++pins) W) [] D f s):SP X pins D f s:=by
 cases f with
 |next=>obtain⟨σ',H',I,q⟩:=h;exact⟨σ',H',fC k I,q⟩
 |brk=>obtain⟨σ',H',I,q⟩:=h;exact⟨σ',H',fC k I,q⟩
 |cont=>obtain⟨σ',H',I,q⟩:=h;exact⟨σ',H',fC k I,q⟩
 |ret u=>obtain⟨v,σ',H',I,r,q⟩:=h;exact⟨v,σ',H',fC k I,r,q⟩
end
structure fO(k:Nat)(A:Around):Prop where
 dp:A.depth+3 * k+5<recursionLimit
 un:A.units+16 * k+200<cLine
 gd:A.guards=some []
theorem aY.h{k:Nat}{A:Around}(r:aY k A):fO k A:=⟨r.dp,r.un,r.gd⟩
theorem fO.mark{k:Nat}{A:Around}(r:fO k A)(e:Option Value):fO k (A.mark e):=⟨r.dp,r.un,r.gd⟩
theorem fO.deeper{k:Nat}{A:Around}(r:fO (k+1) A)(env:Env):fO k (A.deeper env):=
 ⟨by have:=r.dp;show A.depth+1+3 * k+5<_;omega,by have:=r.un;show A.units+3+16 * k+200<_;omega,r.gd⟩
theorem fO.units{k:Nat}{A:Around}(r:fO k A):A.units+64<cLine:=by have:=r.un;omega
structure oS(P:Program)(w:World)(K:W.Frag)(mg:Str→Option Value)(base:Heap)(k:Nat)(f:Addr)(fd:FuncData)(ps:List Str)(sp:Sp):Prop where
 len:∀vs H Q E,sp vs H Q E→vs.length=ps.length
 run:∀(A:Around)(outer:List Env)(s:Shared)(H:Hp)(args:Args)(us:List Value)(vs:List V)(Q:VK)(E:XK),fO k A→pJ P w K mg base A outer s H→BindsTo s fd args (ps.zip us)→aL vs us→sp vs H Q E→
  codeAny (model P w) A (.call (.ref f) args) (CR QX outer P w H s Q E) s
abbrev Z2(P:Program)(w:World)(K:W.Frag)(mg:Str→Option Value)(base:Heap)(N:List Str)(qual:Str)(scope:Scope)(f:Addr)(cd:Value)(A:Around)(outer:List Env)(s:Shared)(H:Hp)(E:XK):Cx:=
 { iW QX P w K mg base N qual scope f cd A outer s H E with calm:=false,xe:=fun _ _=>False }
theorem wd{P:Program}{w:World}{K:W.Frag}{mg:Str→Option Value}{base:Heap}{N ps:List Str}{qual:Str}{scope:Scope}{f:Addr}{cd:Value}{A:Around}{outer:List Env}{s s1:Shared}{H:Hp}{E:XK}{us:List Value}{vs:List V}
  (S:dQ N ps scope) (e0:pJ P w K mg base A outer s H) (hl:vs.length=ps.length) (r:aL vs us)
  (x:InCallC s s.heap.objs.size (bindL (envOfC qual scope s.heap.objs.size f cd).kindOf (ps.zip us) fun _=>none) (cellsFrom (s.heap.objs.size+1) scope.names []) (bindC (envOfC qual scope s.heap.objs.size f cd).kindOf (ps.zip us) fun _=>none) s1):
  Inv (Z2 P w K mg base N qual scope f cd A outer s H E) [] (fL N vs) H s1:=by
 have e1:pJ P w K mg base { A with handled:=none } outer s H:=⟨e0.frames,e0.mod,e0.bs,e0.Vz,e0.QJ,e0.V8,e0.hok,e0.bare⟩
 have I:=qx (CX:=QX) (E:=E) S (A:={ A with handled:=none }) rfl e1 hl r x;have k:=I.ok;exact⟨⟨k.mod,k.kind,k.glob,k.blt,k.above,k.inj,k.has,k.cab,fun z=>Bool.noConfusion z,k.frames,k.stk,k.YS,k.bs,k.Vz,k.TY,k.UG,k.QJ,k.V8⟩,I.os,I.bare,I.base,I.loc,I.cell,I.free,I.Oz,I.pin,I.hok,I.len⟩
theorem Jb{P:Program}{w:World}{K:W.Frag}{mg:Str→Option Value}{base:Heap}{k:Nat}{x qual:Str}{st:Stmt}{f:Addr}{fd:FuncData}{N ps:List Str}{sp:Sp}(F:Vp K x qual st f fd)(S:dQ N ps (aG st))(len:∀vs H Q E,sp vs H Q E→vs.length=ps.length)
  (Uz:∀(E_:Value)(A:Around)(outer:List Env)(s:Shared)(H:Hp)(vs:List V)(Q:VK)(E:XK),fO k (A.deeper (envOfC qual (aG st) s.heap.objs.size f E_))→sp vs H Q E→
   ∃t,Te (Z2 P w K mg base N qual (aG st) f E_ A outer s H E) (bV st) t∧t { nx:=fun _ H'=>Q .non H',rt:=Q } (fL N vs) H):oS P w K mg base (k+1) f fd ps sp:=by
 obtain⟨oc,od,kV,doc,pm,an,E_,ct,S6,rfl,lk,S8⟩:=F.ex;refine⟨len,fun A outer s H args us vs Q E hr e0 hb r Wo=>?_⟩;have hl:=len _ _ _ _ Wo;have KX:K.In s.heap:=e0.mod.Sd.keeps fun b o e=>(e0.bs b o e).1;have lim:s.heap.NoLimit:=e0.mod.nolimit.keeps fun b o e=>(e0.bs b o e).1
 have Wt:∀y∈ps.zip us,(aG st).names.lookup y.1=some .local∨((aG st).names.lookup y.1=some .cell∧((cellsFrom (s.heap.objs.size+1) (aG st).names []).lookup y.1).isSome=true):=fun⟨n,v⟩ hy=>by
  rcases S.par n (List.of_mem_zip hy).1 with q|q
  ·exact .inl q
  ·exact .inr ⟨q,W.cellsFrom_some _ _ _ (.inl q)⟩
 refine codeAny_call_function (by have:=hr.dp;omega) (KX _ _ lk) rfl S.co S.gen rfl (W.codeRec_of KX S8) (hb _ _ _ _ ?_);refine wpAny_newFunctionEnv_cells S.kind Wt fun env he s1 x=>?_;subst he;refine⟨lim.keeps x.toInCall.keep,codeAny_func ?_⟩;obtain⟨t,ht,hq⟩:=Uz E_ A outer s H vs Q E (hr.deeper _) Wo;have I:=wd (cd:=E_) (f:=f) (qual:=qual) (E:=E) S e0 hl r x;refine wpAny_mono (ht [] s1 (fL N vs) H _ I hq) (fun fl s' hs=>?_) fun e s' hs=>hs.elim
 have fin:∀{σ':St}{H':Hp}{v:V}{u:Value},Inv (Z2 P w K mg base N qual (aG st) f E_ A outer s H E) [] σ' H' s'→aQ v u→Q v H'→CE outer P w H s Q u s':=
  fun{σ' H' v u} J rv q=>⟨v,H',J.os,J.bare,J.base,J.hok,rv,q⟩
 cases fl with
 |ret u=>obtain⟨v,σ',H',J,rv,q⟩:=hs;exact fin J rv q
 |next=>obtain⟨σ',H',J,q⟩:=hs;exact fin (v:=V.non) (u:=Value.none) J rfl q
 |brk=>obtain⟨_,_,_,q⟩:=hs;exact False.elim q
 |cont=>obtain⟨_,_,_,q⟩:=hs;exact False.elim q
open PySem.W PySem.Builtin PySem.Builtin.ObjectAttr PySem.Builtin.Getset_descriptor
structure Fy(K:Frag)(C:Addr):Prop where
 ga:findIn K (.ref C) "__getattribute__"=some (some (.builtin "BaseException.__getattribute__"))
 gt:findIn K (.ref C) "__getattr__"=some none
 mb:mroIn K C (.type "BaseException")=some true
section
variable{prog:Program}{w:World}{A:Around}{E:Value→Shared→Prop}{K:Frag}{x C:Addr}{name:Str}{tk:Tok}{s:Shared}
theorem Cu{r:Found}{Q:Fin→Shared→Prop}(L0:Looks (model prog w) s.heap (typeOf (.ref x)) (.ref C))(L1:Looks (model prog w) s.heap (find (.ref x) (.ref C) name) r)
  (h:match r with
   |.value v=>Q (.done (.ret v)) s
   |.bind g a=>wpAny (model prog w) A (bindTo g a (.ref x) (.ref C)) Q E s
   |.missing=>False):wpAny (model prog w) A (Builtin.«object.__getattribute__» ⟨[.ref x,.str name tk],[]⟩) Q E s:=by
 obtain⟨hh,g,d,t,os⟩:=s;refine wpAny_bind (wpAny_pure (wpAny_bind (wpAny_pure (wpAny_bind (L0.at (wpAny_bind (L1.at ?_)))))))
 cases r with
 |value v=>exact wpAny_pure h
 |bind g a=>exact h
 |missing=>exact h.elim
theorem Mm{fill expr:Bool}{Q:Value→Shared→Prop}(c:Fy K C)(Sd:K.In s.heap)(L0:Looks (model prog w) s.heap (typeOf (.ref x)) (.ref C))
  (h:codeAny (model prog w) A (.call (.builtin "BaseException.__getattribute__") ⟨[.ref x,.str name tk],[]⟩) (fun r s'=>match r with|.ok (.ret v)=>handedIn v=true∧Q v s'|_=>False) s):
  wpAny (model prog w) A (getAttrBy (.ref x) (.str name tk) fill expr) Q E s:=by
 obtain⟨hh,g,d,t,os⟩:=s;have L1:=looks_findIn (M:=model prog w) Sd c.ga;have L2:=looks_findIn (M:=model prog w) Sd c.gt
 have no:(onTheHeap (Value.ref C)&&Value.builtin "BaseException.__getattribute__"==Value.builtin "object.__getattribute__")=false:=by rw[show(Value.builtin "BaseException.__getattribute__"==Value.builtin "object.__getattribute__")=false by decide+kernel];rfl
 have no2:(expr&&onTheHeap (Value.builtin "BaseException.__getattribute__"))=false:=by cases expr<;>rfl
 unfold getAttrBy;refine wpAny_holding (wpAny_bind (L0.at (wpAny_bind (L1.at ?_))));dsimp only;rw[no,if_neg (by decide)];unfold getAttrByItsOwn callGetattribute boundAndCalled;rw[no2,if_neg (by decide)];refine wpAny_bind (L2.at (wpAny_bind (wpAny_attempt (wpAny_holding ?_))));rw[PySem.F.attr_ValueError.ga.bind];refine wpAny_bind (wpAny_pure (wpAny_call (codeAny_mono h fun r s' z=>?_)))
 cases r with
 |error e=>exact z.elim
 |ok f=>cases f with
  |ret v=>exact handed_on z.1 z.2
  |next=>exact z.elim
  |brk=>exact z.elim
  |cont=>exact z.elim
theorem Gp{R:Result→Shared→Prop}(c:Fy K C)(Sd:K.In s.heap)(L0:Looks (model prog w) s.heap (typeOf (.ref x)) (.ref C))
  (h:wpAny (model prog w) A.in1 (Builtin.«object.__getattribute__» ⟨[.ref x,.str name tk],[]⟩) (fun fin s'=>match fin with|.done f=>R (.ok f) s'|.again c'=>c'.quiet=true∧codeAny (model prog w) A c' R s') (fun e s'=>R (.error e) s') s):
  codeAny (model prog w) A (.call (.builtin "BaseException.__getattribute__") ⟨[.ref x,.str name tk],[]⟩) R s:=by
 have k1:builtinKind "BaseException.__getattribute__"=some .slot:=by decide+kernel
 have k2:splitId "BaseException.__getattribute__"=some ("BaseException","__getattribute__"):=by decide+kernel
 have isB:Looks (model prog w) s.heap (isInstance (.ref x) (.type "BaseException")) true:=L0.andThen (looks_mroIn Sd c.mb);refine codeAny_call_builtin PySem.F.attr_ValueError.ga.plain PySem.F.entry_bexc_ga (@check_slot (model prog w) _ _ s "BaseException.__getattribute__" "BaseException" "__getattribute__" (.ref x) [.str name tk] [] _ k1 k2 isB (PySem.F.args_bexc_ga (.ref x) (.str name tk)) ?_);exact h
theorem Cs{v:Value}{expr:Bool}{Q:Value→Shared→Prop}(c:Fy K C)(Sd:K.In s.heap)(L0:Looks (model prog w) s.heap (typeOf (.ref x)) (.ref C))(L1:Looks (model prog w) s.heap (find (.ref x) (.ref C) name) (.value v))(hv:handedIn v=true)(h:Q v { s with toks:=s.toks+1 }):
  wpAny (model prog w) A (getAttr (.ref x) name expr) Q E s:=
 wpAny_bind (wpAny_mkText (Mm (s:={ s with toks:=s.toks+1 }) c Sd L0 (Gp (s:={ s with toks:=s.toks+1 }) c Sd L0 (Cu (s:={ s with toks:=s.toks+1 }) L0 L1 ⟨hv,h⟩))))
end
noncomputable def vf:List Value→Bool
 |.ref _::r=>vf r
 |l=>l==[.type "ValueError",.type "Exception",.type "BaseException",.type "object"]||l==[.type "Exception",.type "BaseException",.type "object"]
theorem ig:∀{l:List Value},vf l=true→(l= [.type "ValueError",.type "Exception",.type "BaseException",.type "object"]∨l= [.type "Exception",.type "BaseException",.type "object"])∨∃c r,l=.ref c::r∧vf r=true:=by
 intro l e;unfold vf at e
 split at e
 ·exact .inr ⟨_,_,rfl,e⟩
 ·rw[Bool.or_eq_true]at e;exact .inl (e.imp beq_iff_eq.mp beq_iff_eq.mp)
theorem sT(self:Value):∀(l:List Value),vf l=true→refuseLoop self "__setattr__" l=pure ():=by
 intro l
 induction l with
 |nil=>intro e;rcases ig e with(z|z)|⟨_,_,z,_⟩<;>cases z
 |cons x r ih=>
  intro e;rcases ig e with(z|z)|⟨c,r',z,e'⟩
  ·rw[z];exact PySem.F.store_ValueError.passes self
  ·rw[z];exact PySem.F.store_Exception.passes self
  ·cases z;rw[refuseLoop_ref];exact ih e'
theorem sU:∀(l:List Value),vf l=true→l.contains (.type "object")=true:=by
 intro l
 induction l with
 |nil=>intro e;rcases ig e with(z|z)|⟨_,_,z,_⟩<;>cases z
 |cons x r ih=>
  intro e;rcases ig e with(z|z)|⟨c,r',z,e'⟩
  ·rw[z];decide+kernel
  ·rw[z];decide+kernel
  ·cases z;rw[List.contains_cons,ih e',Bool.or_true]
def GA(K:Frag)(C:Addr):Bool:=(clsIn K C).any fun cd=>cd.hasDict&&vf cd.mro
noncomputable def nJ(K:Frag)(C:Addr)(T9:List Value)(O6:String):Bool:=match K.lookup C with
 |some ⟨.type "type",_,.cls cd,sl⟩=>(match cd.mro,sl.toList with
  |.ref C'::bm,[_,_,_,_,some (.builtin n),_]=>C'==C&&(n==O6&&(!cd.hasDel&&tailIn K T9 bm))
  |_,_=>false)
 |_=>false
theorem sO{K:Frag}{h:Heap}{C:Addr}{T9:List Value}{O6:String}(Sd:K.In h)(ok:nJ K C T9 O6=true):
  ∃bm N nm q bs SQ sn sub ab Wx dd k0 k1 k2 k3 k5,h.get? C=some (excClassObj nm q C N bs bm SQ sn sub ab Wx dd k0 k1 k2 k3 k5 O6)∧OwnTail h T9 bm:=by
 unfold nJ at ok
 split at ok
 case h_2=>exact absurd ok (by decide)
 case h_1 dict aci sls lk=>
  split at ok
  case h_2=>exact absurd ok (by decide)
  case h_1 C2 tl f0 f1 f2 f3 nid f5 em es=>
   rw[abk,abk,abk]at ok;obtain⟨z1,z2,z3,z4⟩:=ok;rw[Bool.not_eq_true']at z3;have YW:sls= #[f0,f1,f2,f3,some (.builtin nid),f5]:=Array.toList_inj.mp es
   cases beq_iff_eq.mp z1
   cases beq_iff_eq.mp z2
   rcases aci with⟨c1,c2,c3,c4,c5,c6,c7,c8,c9,Tw,Tv⟩
   change c3=_ at em;change Tv=false at z3;subst em z3 YW;exact⟨tl,c4,c1,c5,c2,c6,c7,c8,c9,Tw,dict,f0,f1,f2,f3,f5,Sd _ _ lk,tail_of_in Sd z4⟩
section
variable{prog:Program}{w:World}{A:Around}{E:Value→Shared→Prop}{h:Heap}{g:Array GenState}{d:Drawn}{t:Nat}{os:OsState}
variable{nm q:Str}{C N fI:Addr}{bs bm T9 bmN us:List Value}{SQ:Bool}{sn:List Str}{sub:List Value}{ab:Bool}{Wx:Option Bool}{dd:Option Addr}{k0 k1 k2 k3 k5:Option Value}{B Bn O6 nid T4 inN:String}{oI:Obj}
noncomputable def iY(h:Heap)(C:Addr)(us:List Value):Heap:=
 (h.push { cls:=.type "tuple",data:=.seq us.toArray }).push { cls:=.ref C,data:=.fields #[.ref h.objs.size,.none,.none,.none,.bool false,.none] }
theorem gE{b:Addr}{o:Obj}(e:h.get? b=some o):(iY h C us).get? b=some o:=Heap.get?_push_of_some _ (Heap.get?_push_of_some _ e)
theorem lH:(iY h C us).get? (h.objs.size+1)=some { cls:=.ref C,data:=.fields #[.ref h.objs.size,.none,.none,.none,.bool false,.none] }:=by unfold iY;heap_get
theorem Ct{Q:Fin→Shared→Prop}(Fn:ExcBaseFacts Bn O6 inN bmN)(YM:T9.contains (.type Bn)=true)(FB:ExcBaseFacts B nid T4 T9)(T:OwnTail h T9 bm)
  (hc:h.get? C=some (excClassObj nm q C N bs bm SQ sn sub ab Wx dd k0 k1 k2 k3 k5 O6)) (li:∀h',(∀b o,h.get? b=some o→h'.get? b=some o)→Looks (model prog w) h' (typeLookup (.ref C) "__init__") (some (.ref fI)))
  (fo:h.get? fI=some oI) (fc:oI.cls=.type "function") (len:us.length≤sizeLine)
  (go:wpAny (model prog w) A (call (.ref fI) (.ref (h.objs.size+1)::us)) (fun r s'=>r=.none∧Q (.done (.ret (.ref (h.objs.size+1)))) s') E ⟨iY h C us,g,d,t,os⟩):
  wpAny (model prog w) A (Builtin.«type.__call__» ⟨.ref C::us,[]⟩) Q E ⟨h,g,d,t,os⟩:=by
 repeat (first|with_reducible refine wpAny_madeBy_exc hc ?_|with_reducible refine wpAny_loadPart_at hc ?_|wp_step)
 refine codeAny_call_builtin_code (Code.quiet_builtin _ Fn.quiet) (wpAny_check_new_subU Fn YM T hc (codeAny_exc_new_subU Fn YM FB T hc ?_ len));change wpAny _ _ _ _ _ _;have Wq:(Value.ref C::bm).contains (.ref C)=true:=by rw[List.contains_cons];simp
 have c1:(iY h C us).get? C=some (excClassObj nm q C N bs bm SQ sn sub ab Wx dd k0 k1 k2 k3 k5 O6):=gE hc;have e1:=lH (h:=h) (C:=C) (us:=us);have L:=li (iY h C us) fun b o e=>gE e;have f1:(⟨iY h C us,g,d,t,os⟩:Shared).TypeIs (.ref fI) "function":=⟨_,gE fo,fc⟩
 change wpAny _ _ _ _ _ ⟨iY h C us,g,d,t,os⟩;unfold isInstance
 repeat (first|(with_reducible refine wpAny_isSubtype_exc c1 ?_;rw[Wq])|with_reducible refine wpAny_loadPart_at e1 ?_|wp_step)
 change wpAny _ _ (typeLookup (.ref C) _) _ _ _;refine L.at ?_;refine wpAny_holding (wpAny_bind ?_);unfold bindSpecial;refine wpAny_bind (wpAny_typeOf f1 ?_);rw[if_pos (by decide)];refine wpAny_pure (wpAny_bind (wpAny_mono go (fun r s' z=>?_) fun _ _ z=>z));obtain⟨rfl,z⟩:=z
 wp_walk
 exact z
theorem Go{Q:Value→Shared→Prop}(Fn:ExcBaseFacts Bn O6 inN bmN)(YM:T9.contains (.type Bn)=true)(FB:ExcBaseFacts B nid T4 T9)(T:OwnTail h T9 bm)
  (hc:h.get? C=some (excClassObj nm q C N bs bm SQ sn sub ab Wx dd k0 k1 k2 k3 k5 O6)) (li:∀h',(∀b o,h.get? b=some o→h'.get? b=some o)→Looks (model prog w) h' (typeLookup (.ref C) "__init__") (some (.ref fI)))
  (fo:h.get? fI=some oI) (fc:oI.cls=.type "function") (len:us.length≤sizeLine)
  (go:wpAny (model prog w) (A.under (.builtin "type.__call__" ⟨.ref C::us,[]⟩)) (call (.ref fI) (.ref (h.objs.size+1)::us)) (fun r s'=>r=.none∧Q (.ref (h.objs.size+1)) s') E ⟨iY h C us,g,d,t,os⟩):
  wpAny (model prog w) A (call (.ref C) us) Q E ⟨h,g,d,t,os⟩:=by
 have g1:=tc_lookup;have g2:=tc_bind (.ref C);have ty:(⟨h,g,d,t,os⟩:Shared).TypeIs (.ref C) "type":=⟨_,hc,rfl⟩
 refine wpAny_call (codeAny_of_tree ?_);change wpAny _ _ (callAny (.ref C) _) _ _ _
 repeat (any_goals (first|with_reducible refine wpAny_loadPart_at hc ?_|assumption|wp_step))
 refine⟨rfl,codeAny_call_builtin_at (Code.quiet_builtin _ (by decide+kernel)) entry_typeCall (wpAny_check_type_call_sub hc (Ct Fn YM FB T hc li fo fc len go))⟩
end
noncomputable def fX(h:Heap)(x:Addr):Heap:=(h.push { cls:=.type "dict",data:=.dict #[] }).update x fun o=> { cls:=o.cls,dict:=some h.objs.size,data:=o.data,slots:=o.slots }
section
variable{prog:Program}{w:World}{A:Around}{E:Value→Shared→Prop}{K:Frag}{x C:Addr}{ox:Obj}{name:Str}{tk:Tok}{v:Value}{s:Shared}
theorem zu{h:Heap}(hx:x<h.objs.size):(fX h x).get? h.objs.size=some { cls:=.type "dict",data:=.dict #[] }:=by unfold fX;rw[Heap.get?_update_ne _ _ _ _ (Nat.ne_of_gt hx)];exact Heap.get?_push_at rfl rfl
theorem JL{R:Result→Shared→Prop}(Sd:K.In s.heap)(I:W.InstAt s.heap x ox C none)(hdn:ox.dict=none)(vc:GA K C=true)(ha:findIn K (.ref C) name=some none)
  (go:∀h',h'.Ns1 s.heap.objs.size (fun y=>if y=name then some v else none)→Heap.SameBut s.heap.objs.size (fX s.heap x) h'→R (.ok (.ret .none)) { s with heap:=h',toks:=s.toks+1 }):
  codeAny (model prog w) A (.call (.builtin "object.__setattr__") ⟨[.ref x,.str name tk,v],[]⟩) R s:=by
 obtain⟨cd,hc,hv⟩:=any_some vc;rw[abk]at hv
 have ne:cd.mro.isEmpty=false:=by
  cases z:cd.mro with
  |nil=>rw[z]at hv;exact absurd (sU _ hv.2) (by decide)
  |cons _ _=>rfl
 have isO:Looks (model prog w) s.heap (isInstance (.ref x) (.type "object")) true:=I.type.andThen (looks_mroIn Sd (by unfold mroIn;rw[hc,Option.bind_some,if_neg (by rw[ne];decide),sU _ hv.2]));have hm:Looks (model prog w) s.heap (mroOf (.ref C)) cd.mro:=(looks_clsIn Sd hc).andThen .now;refine codeAny_call_builtin PySem.F.store_object.slot.plain PySem.F.store_object.entry (@check_slot (model prog w) _ _ s "object.__setattr__" "object" "__setattr__" (.ref x) [.str name tk,v] [] _ PySem.F.store_object.kind PySem.F.store_object.split isO (PySem.F.store_object.args (.ref x) (.str name tk) v) ?_);rw[osa_eq,refuse_eq];refine wpAny_bind (wpAny_bind (I.type.here (wpAny_bind (hm.here ?_))));rw[sT _ _ hv.2];refine wpAny_pure (wpAny_bind (I.type.here (wpAny_bind ((looks_findIn Sd ha).here (wpAny_bind (wpAny_pure (a:=none) ?_))))));obtain⟨hx,V6,hn, -⟩:=I;obtain⟨oc,odi,oda,S6⟩:=ox;dsimp only at V6 hdn;subst V6 hdn;refine wpAny_bind (wpAny_pure (wpAny_bind (wpAny_bind (wpAny_loadPart hx (wpAny_bind ((looks_clsIn Sd hc).here ?_))))));rw[hv.1,if_neg (by decide)];dsimp only;rw[if_neg (by simp[typeHasDict])]
 split
 ·cases hn
 ·have x1:(s.heap.push { cls:=.type "dict",data:=.dict #[] }).get? x=some { cls:=.ref C,data:=oda,slots:=S6 }:=Heap.get?_push_of_some _ hx;refine wpAny_bind (wpAny_alloc' (wpAny_bind (wpAny_update' x1 (wpAny_pure ?_))));show wpAny _ _ (storeInDict s.heap.objs.size (.str name tk) name v) _ _ { s with heap:=fX s.heap x };have e0:(fX s.heap x).Ns s.heap.objs.size (fun _=>none):=⟨_, #[],_,zu (Heap.lt_size hx),rfl,fun e he=>absurd he (by simp),fun _=>rfl⟩
  unfold storeInDict newKeyGuard;refine wpAny_bind (wpAny_pure (wpAny_bind (wpAny_nsSet1 (s:={ s with heap:=fX s.heap x }) (Heap.Ns1.of_empty e0) fun h' n1 sb=>?_)));obtain⟨oD,esD,epD,hoD,hdD,hcD⟩:=n1.count (PySem.Within.cons name v PySem.Within.nil);refine wpAny_bind (wpAny_lookBehind hoD (by rw[hdD];exact pastItsLine_dict (Nat.le_trans hcD (by rw[sizeLine_eq,List.length_singleton];decide))) ?_);exact wpAny_pure (go h' n1 sb)
end
def Fr0(vs:Array Value):Prop:=∃t:Addr,vs= #[.ref t,.none,.none,.none,.bool false,.none]
noncomputable def uY(a:Addr)(cls:Value):HO:=.ext fun h=>∃o vs,h.get? a=some o∧o.cls=cls∧o.data=.fields vs∧o.dict=none∧Fr0 vs
noncomputable def mP(a:Addr)(cls:Value)(dx:Addr):HO:=.ext fun h=>∃o vs,h.get? a=some o∧o.cls=cls∧o.data=.fields vs∧o.dict=some dx∧Fr0 vs
noncomputable def Uc(dx:Addr)(f:Str)(y:V):HO:=.ext fun h=>∃mA u,h.Ns1 dx mA∧mA f=some u∧aQ y u
noncomputable def Oc(a:Addr):HO:=.ext fun h=>∃o,h.get? a=some o
structure V1(K:Frag)(C fI:Addr)(f:Str):Prop where
 lies:nJ K C [.type "ValueError",.type "Exception",.type "BaseException",.type "object"] "ValueError.__new__"=true∨nJ K C [.type "Exception",.type "BaseException",.type "object"] "Exception.__new__"=true
 init:findIn K (.ref C) "__init__"=some (some (.ref fI))
 fn:isFn K (.ref fI)=true
 kp:keepIn K (.ref C)=true
 v:GA K C=true
 sa:findIn K (.ref C) "__setattr__"=some (some (.builtin "object.__setattr__"))
 no:findIn K (.ref C) f=some none
 hd:hasDictIn K C=true
 x:Fy K C
section
variable{X:Cx}{pins:List (Addr×Obj)}{σ:St}{H:Hp}{s:Shared}{a C dx fI:Addr}{f:Str}{y:V}{u:Value}{A:Around}{E:Value→Shared→Prop}
theorem zB{H:Hp}{a b:Addr}{o o' t:HO}(ne:a≠b):upd (upd (upd H b t) a o) b o'=upd (upd H a o) b o':=by
 funext c
 unfold upd
 by_cases h1:c=b
 ·simp[h1]
 ·simp[h1]
theorem Cq{Q:Unit→Shared→Prop}(I:Inv X pins σ H s)(e:H a=some (uY a (.ref C)))(c:V1 X.K C fI f)(ry:aQ y u)
  (go:∀dx s',H dx=none→a≠dx→Inv X pins σ (upd (upd H a (mP a (.ref C) dx)) dx (Uc dx f y)) s'→Q () s'):wpAny (model X.prog X.w) A (setAttr (.ref a) f u) Q E s:=by
 obtain⟨⟨o,vs,ho,V6,Xh,Xg,f0⟩,_,_⟩:=(show bq X.prog X.w H s.heap a (uY a (.ref C))from I.hok a _ e)
 have J:W.InstAt s.heap a o C none:=⟨ho,V6,by unfold notCls;rw[Xh],by rw[Xg];exact True.intro⟩
 refine set_plain I.Qj J c.sa (JL (s:={ s with toks:=s.toks+1 }) I.Qj J Xg c.v c.no fun h' ns sb=>?_);have lt:a<s.heap.objs.size:=Heap.lt_size ho;have ne:a≠s.heap.objs.size:=Nat.ne_of_lt lt;have hp:(s.heap.push { cls:=.type "dict",data:=.dict #[] }).get? a=some o:=Heap.get?_push_of_some _ ho
 have hu:(fX s.heap a).get? a=some { cls:=o.cls,dict:=some s.heap.objs.size,data:=o.data,slots:=o.slots }:=by
  unfold fX;refine Heap.get?_update_self _ hp ?_;have fr:=(Heap.get?_some_iff.mp ho).2;obtain⟨oc,od,Zk,S6⟩:=o
  cases Zk<;>first|rfl|exact fr
 have hk:∀b q,b≠a→(s.heap.push { cls:=.type "dict",data:=.dict #[] }).get? b=some q→(fX s.heap a).get? b=some q:=fun b q hb z=>by unfold fX;rw[Heap.get?_update_ne _ _ _ _ hb];exact z
 have I1:=I.laid (a:=s.heap.objs.size) (o:=Oc s.heap.objs.size) (h':=s.heap.push { cls:=.type "dict",data:=.dict #[] }) (t':=s.toks) (fun b q z=>Heap.get?_push_of_some _ z) (abl _)
  ⟨⟨_,Heap.get?_push_at rfl rfl⟩,⟨_,Heap.get?_push_at rfl rfl⟩,(by rintro h1 h2 ⟨o,z⟩ k;exact ⟨o,k o z⟩)⟩
 have I2:=I1.write (x:=a) (e:=a) (o:=mP a (.ref C) s.heap.objs.size) (h':=fX s.heap a) (t':=s.toks) (by rw[aj ne,e];exact True.intro) (.inl rfl) hk ⟨_,hu⟩
  ⟨⟨_,vs,hu,V6,Xh,rfl,f0⟩,⟨_,hu⟩,(by rintro h1 h2 ⟨o,vs,z,r⟩ k;exact ⟨o,vs,k o z,r⟩)⟩
 have nu:∃q,h'.get? s.heap.objs.size=some q:=let⟨q,_,_,z,_⟩:=ns;⟨q,z⟩
 have I3:=I2.write (x:=s.heap.objs.size) (e:=s.heap.objs.size) (o:=Uc s.heap.objs.size f y) (h':=h') (t':=s.toks+1+1) (by rw[aj (Ne.symm ne),aA];exact True.intro) (.inl rfl) (fun b q hb z=>(sb.2 b hb).trans z) nu
  ⟨⟨_,u,ns,by rw[if_pos rfl],ry⟩,nu,(by rintro h1 h2 ⟨mA,u',⟨od,es,ep,z,r⟩,r2⟩ k;exact ⟨mA,u',⟨od,es,ep,k _ z,r⟩,r2⟩)⟩
 rw[zB ne]at I3;exact go _ _ (I.hok.fresh (abl _)) ne I3
theorem Cr{b:Bool}{Q:Value→Shared→Prop}(I:Inv X pins σ H s)(e:∃o vs,s.heap.get? a=some o∧o.cls=.ref C∧o.data=.fields vs∧o.dict=some dx)(d:H dx=some (Uc dx f y))(c:V1 X.K C fI f)
  (go:∀u s',Inv X pins σ H s'→aQ y u→Q u s'):wpAny (model X.prog X.w) A (getAttr (.ref a) f b) Q E s:=by
 obtain⟨o,vs,ho,V6,Xh,Xg⟩:=e;obtain⟨⟨mA,u,ns,hu,ry⟩,_,_⟩:=(show bq X.prog X.w H s.heap dx (Uc dx f y)from I.hok dx _ d)
 obtain⟨od,hod,hl⟩:=qj ns;have J:W.InstAt s.heap a o C (some od):=⟨ho,V6,by unfold notCls;rw[Xh],by rw[Xg];exact hod⟩
 exact Cs c.x I.Qj J.type (looks_find I.Qj J (findObj_own c.hd c.no rfl (by rw[hl,hu]))) (qB ry) (go u _ (I.tok _) ry)
end
def FO(K:Frag)(f:Str)(ta tv:TE):TS:=fun D σ H=>tv σ H fun y H1=>ta σ H1 fun x H2=>∃a C fI,x=.ref a∧H2 a=some (uY a (.ref C))∧V1 K C fI f∧∀dx,H2 dx=none→a≠dx→D.nx σ (upd (upd H2 a (mP a (.ref C) dx)) dx (Uc dx f y))
section
variable{X:Cx}{o value:Expr}{f:Str}{pos pos':Pos}{ta tv:TE}
theorem Dm(ha:PE X o ta)(hv:PE X value tv)(hs:swapsWith value (some (.Attribute o f pos')) pos.line X.env=pure false):PS X (.Assign [.Attribute o f pos'] value pos) (FO X.K f ta tv):=by intro pins s σ H D I h;refine plainObj_wpAny_Assign_Attribute (G4 (hv pins s σ H _ I h) fun u s1 ⟨y,H1,I1,ry,q⟩=>G4 (ha pins s1 σ H1 _ I1 q) ?_) hs;rintro ov s2 ⟨x,H2,I2,rx,a,C,fI,ex,ea,c,q2⟩;subst ex;obtain rfl:ov=Value.ref a:=rx;exact Cq I2 ea c ry fun dx s3 nd ne I3=>⟨σ,_,I3,q2 dx nd ne⟩
end
def tm(K:Frag)(f:Str):Sp:=fun vs H Q _=>∃a C fI y,vs= [.ref a,y]∧H a=some (uY a (.ref C))∧V1 K C fI f∧∀dx,H dx=none→a≠dx→Q .non (upd (upd H a (mP a (.ref C) dx)) dx (Uc dx f y))
theorem zH{K:Frag}{f:Str}{vs:List V}{H:Hp}{Q:VK}{E:XK}(h:tm K f vs H Q E):vs.length=2:=by obtain⟨_,_,_,_,rfl,_⟩:=h;rfl
theorem BD{P:Program}{w:World}{K:Frag}{mg:Str→Option Value}{base:Heap}{x qual f:Str}{st:Stmt}{fI:Addr}{fd:FuncData}{N ps:List Str}(Fn:Vp K x qual st fI fd)(Sc:dQ N ps (aG st))(hl:ps.length=2)
  (hb:∀(E_:Value)(A:Around)(outer:List Env)(s:Shared)(H:Hp)(E:XK),Te (iW QX P w K mg base N qual (aG st) fI E_ A outer s H E) (bV st) (FO K f (CH 0) (CH 1))):
  bK P w K mg base QX 1 fI fd ps (tm K f):=by
 obtain⟨oc,od,kV,doc,pm,an,E_,ct,S6,rfl,lk,S8⟩:=Fn.ex;refine xu lk S8 Sc (fun vs H Q E h=>(zH h).trans hl.symm) fun A outer s H vs Q E hr h=>⟨_,hb E_ A outer s H E,?_⟩
 obtain⟨a,C,fI',y,rfl,ea,c,q⟩:=h;exact⟨y,rfl,.ref a,rfl,a,C,fI',rfl,ea,c,q⟩
section
variable{X:Cx}{C fI:Addr}{fd:FuncData}{ps:List Str}{f x:Str}{e:Expr}{pos p apos:Pos}{ta:TA}
theorem nU{T9 bmN:List Value}{O6 Bn inN B nid T4:String}(Fn:ExcBaseFacts Bn O6 inN bmN)(YM:T9.contains (.type Bn)=true)(FB:ExcBaseFacts B nid T4 T9)(lies:nJ X.K C T9 O6=true){pins:List (Addr×Obj)}{σ:St}{H:Hp}{s:Shared}{Q:Value→Shared→Prop}{u:Value}{y:V}(F:bK X.prog X.w X.K X.mg X.base QX 1 fI fd ps (tm X.K f))(c:V1 X.K C fI f)(hb:bC X.K fd ps [])(hl:ps.length=2)(hr:aY 2 X.A)(I:Inv X pins σ H s)(ry:aQ y u)
  (go:∀a dx s',H a=none→H dx=none→a≠dx→X.s₀.heap.get? a=none→Inv X pins σ (upd (upd H a (mP a (.ref C) dx)) dx (Uc dx f y)) s'→Q (.ref a) s'):wpAny (model X.prog X.w) X.A (call (.ref C) [u]) Q X.xe s:=by
 obtain⟨bm,N,nm,q,bs,SQ,sn,sub,ab,Wx,dd,k0,k1,k2,k3,k5,hC,T⟩:=sO I.Qj lies;have L:∀h',(∀b o,s.heap.get? b=some o→h'.get? b=some o)→Looks (model X.prog X.w) h' (typeLookup (.ref C) "__init__") (some (.ref fI)):=fun h' k=>looks_findIn (I.Qj.keeps k) c.init
 obtain⟨oI,fo,fc⟩:∃oI,s.heap.get? fI=some oI∧oI.cls=.type "function":=by have z:typeIn X.K (.ref fI)=some (.type "function"):=beq_iff_eq.mp c.fn;obtain⟨oI,h1,h2⟩:=Option.map_eq_some_iff.mp (show(X.K.lookup fI).map (·.cls)=some (.type "function")from z);exact⟨oI,I.Qj _ _ h1,h2⟩
 have fr1:H (s.heap.objs.size+1)=none:=I.hok.fresh (Nat.le_succ _)
 have I2:Inv X pins σ (upd H (s.heap.objs.size+1) (uY (s.heap.objs.size+1) (.ref C))) { s with heap:=iY s.heap C [u],toks:=s.toks }:=
  I.laid (a:=s.heap.objs.size+1) (h':=iY s.heap C [u]) (t':=s.toks) (fun b q z=>gE z) (Nat.le_succ _)
   ⟨⟨_,_,lH,rfl,rfl,rfl,⟨_,rfl⟩⟩,⟨_,lH⟩,(by rintro h1 h2 ⟨o,vs,z,r⟩ k;exact ⟨o,vs,k o z,r⟩)⟩
 have aa2:X.s₀.heap.get? (s.heap.objs.size+1)=none:=by
  cases z:X.s₀.heap.get? (s.heap.objs.size+1)with
  |none=>rfl
  |some o=>exact absurd (Nat.lt_of_lt_of_le (Heap.lt_size z) I.sz) (by omega)
 obtain⟨hp,g,d,t,os⟩:=s;refine Go Fn YM FB T hC L fo fc (by show 1≤sizeLine;decide) ?_
 have q2:tm X.K f [.ref (hp.objs.size+1),y] (upd H (hp.objs.size+1) (uY (hp.objs.size+1) (.ref C))) (fun v H'=>v=.non∧∃dx,upd H (hp.objs.size+1) (uY (hp.objs.size+1) (.ref C)) dx=none∧hp.objs.size+1≠dx∧H'=upd (upd (upd H (hp.objs.size+1) (uY (hp.objs.size+1) (.ref C))) (hp.objs.size+1) (mP (hp.objs.size+1) (.ref C) dx)) dx (Uc dx f y)) E0:=
  ⟨_,C,fI,y,rfl,aA,c,fun dx nd ne=>⟨rfl,dx,nd,ne,rfl⟩⟩
 have bd:=hb _ [.ref (hp.objs.size+1),u] I2.Qj (by rw[List.append_nil,hl];rfl);rw[List.append_nil]at bd;refine wpAny_call (codeAny_mono (F.run _ X.stack _ _ ⟨[.ref (hp.objs.size+1),u],[]⟩ [.ref (hp.objs.size+1),u] [.ref (hp.objs.size+1),y] _ E0 (hr.make C [u] []) (I2.env0.make C [u] []) bd (.cons rfl (.cons ry .nil)) q2) fun r s' hq=>?_)
 cases r with
 |error e=>exact hq.elim
 |ok fl=>
  cases fl with
  |ret z=>obtain⟨v,H',I3,rv,ev,dx,nd,ne,eH⟩:=I2.after hq;subst ev eH;rw[wI]at I3;exact⟨rv,go _ dx _ fr1 (by rw[aj (Ne.symm ne)]at nd;exact nd) ne aa2 I3⟩
  |next=>exact False.elim hq
  |brk=>exact False.elim hq
  |cont=>exact False.elim hq
theorem xS{pins:List (Addr×Obj)}{σ:St}{H:Hp}{s:Shared}{Q:Value→Shared→Prop}{u:Value}{y:V}(F:bK X.prog X.w X.K X.mg X.base QX 1 fI fd ps (tm X.K f))(c:V1 X.K C fI f)(hb:bC X.K fd ps [])(hl:ps.length=2)(hr:aY 2 X.A)(I:Inv X pins σ H s)(ry:aQ y u)
  (go:∀a dx s',H a=none→H dx=none→a≠dx→X.s₀.heap.get? a=none→Inv X pins σ (upd (upd H a (mP a (.ref C) dx)) dx (Uc dx f y)) s'→Q (.ref a) s'):wpAny (model X.prog X.w) X.A (call (.ref C) [u]) Q X.xe s:=by
 rcases c.lies with l|l
 ·exact nU PySem.F.excBase_ValueError (by decide+kernel) PySem.F.excBase_ValueError l F c hb hl hr I ry go
 ·exact nU PySem.F.excBase_Exception (by decide+kernel) PySem.F.excBase_Exception l F c hb hl hr I ry go
def CI(K:Frag)(C fI:Addr)(f:Str)(E:XK)(ta:TA):TS:=fun _ σ H=>ta σ H fun vs H1=>∃y,vs= [y]∧V1 K C fI f∧∀dx,H1 dx=none→E (.ref C) (some dx) (upd H1 dx (Uc dx f y))
theorem vz{M:Model}{A:Around}{Ee:Value→Shared→Prop}{env:Env}{x:Sem Value}{Q:Flow→Shared→Prop}{s:Shared}(hh:A.handled=none)
  (h:wpAny M A x (fun v s1=>∃(e C N t:Addr)(dx:Option Addr)(sl:Array (Option Value))(nm q:Str)(bs bm:List Value)(SQ:Bool)(sn:List Str)(sub:List Value)(ab:Bool)(Wx:Option Bool)(dd:Option Addr)(k0 k1 k2 k3 k5:Option Value)(nid:String),
   v=.ref e∧s1.heap.get? C=some (excClassObj nm q C N bs bm SQ sn sub ab Wx dd k0 k1 k2 k3 k5 nid)∧bm.contains (.type "BaseException")=true∧s1.heap.get? e=some ⟨.ref C,dx,.fields #[.ref t,.none,.none,.none,.bool false,.none],sl⟩∧Ee (.ref e) s1) Ee s):
  wpAny M A (raiseStmt env (some x) none) Q Ee s:=by
 unfold raiseStmt;refine wpAny_bind (wpAny_mono h (fun v s1 z=>?_) fun _ _ z=>z);obtain⟨e,C,N,t,dx,sl,nm,q,bs,bm,SQ,sn,sub,ab,Wx,dd,k0,k1,k2,k3,k5,nid,rfl,hC,hB,he,hE⟩:=z;have both:(Value.ref C::bm).contains (.type "BaseException")=true:=by rw[List.contains_cons,hB,Bool.or_true]
 obtain⟨hp,g,d,tk,os⟩:=s1
 repeat (first|with_reducible refine wpAny_loadPart_at he ?_|with_reducible refine wpAny_loadPart_at hC ?_|(with_reducible refine wpAny_isSubtype_exc hC ?_;rw[both])|wp_step)
 exact wpAny_raiseNew_none hh hE
theorem yj{E:XK}(F:bK X.prog X.w X.K X.mg X.base QX 1 fI fd ps (tm X.K f))(c:V1 X.K C fI f)(hb:bC X.K fd ps [])(hl:ps.length=2)(hr:aY 2 X.A)(hg:Gl X x)(hm:X.mg x=some (.ref C))(hc:X.calm=true)(l:Lv X E)(ha:PA X [e] ta)
  (PJ:nD0 x:=by decide) (he:starEach [e] X.env= [(false,eval e X.env)]:=by rfl) (J3:(backTo pos (starEach [] X.env)).any (·.1)=false:=by rfl):
  PS X (.Raise (some (.Call (.Name x p) [e] [] pos)) none apos) (CI X.K C fI f E ta):=by
 intro pins s σ H D I h;rw[arm_exec_Raise];refine wpAny_bind (wpAny_standAt (vz (I.ok.hd hc) ?_));refine wpAny_mono (Q:=fun v s1=>∃a dx y H1,v=.ref a∧H1 a=none∧H1 dx=none∧a≠dx∧X.s₀.heap.get? a=none∧Inv X pins σ (upd (upd H1 a (mP a (.ref C) dx)) dx (Uc dx f y)) s1∧E (.ref C) (some dx) (upd H1 dx (Uc dx f y))) (wpAny_bind (wpAny_mono (wpAny_Call_Name_kw (jJ I hg hm ?_ PJ)) (fun v s1 z=>wpAny_bind (wpAny_standAt (wpAny_pure z))) fun _ _ z=>z)) (fun v s1 z=>?_) fun _ _ z=>z
 ·refine W.callWith_K (h₀:=X.base) I.ok.mod.Sd c.kp (G4 (ha pos pins s σ H _ I h) fun us s1 ⟨vs,H1,I1,r,y,ev,c',q⟩=>⟨I1.Qj,?_⟩) he J3;subst ev;obtain⟨u,rfl,ru⟩:=r.one;exact xS F c hb hl hr I1 ru fun a dx s2 na nd ne new I2=>⟨a,dx,y,H1,rfl,na,nd,ne,new,I2,q dx nd⟩
 ·obtain⟨a,dx,y,H1,rfl,na,nd,ne,new,I1,q⟩:=z
  obtain⟨T9,O6,Yh,lz⟩:∃(T9:List Value)(O6:String),T9.contains (.type "BaseException")=true∧nJ X.K C T9 O6=true:=by
   rcases c.lies with l|l
   ·exact⟨_,_,by decide+kernel,l⟩
   ·exact⟨_,_,by decide+kernel,l⟩
  obtain⟨bm,N,nm,q0,bs,SQ,sn,sub,ab,Wx,dd,k0,k1,k2,k3,k5,hC,T⟩:=sO I1.Qj lz;have ha:upd (upd H1 a (mP a (.ref C) dx)) dx (Uc dx f y) a=some (mP a (.ref C) dx):=by rw[aj ne,aA]
  obtain⟨⟨o,vs,ho,V6,Xh,Xg,t,ht⟩,_,_⟩:=(show bq X.prog X.w _ s1.heap a (mP a (.ref C) dx)from I1.hok a _ ha)
  obtain⟨oc,od,Zk,S6⟩:=o;dsimp only at V6 Xh Xg;subst V6 Xh Xg ht;refine⟨a,C,N,t,_,_,nm,q0,bs,bm,SQ,sn,sub,ab,Wx,dd,k0,k1,k2,k3,k5,_,rfl,hC,T.hasType Yh,ho,l.2.2.2 _ _ (yK I1 l.1 l.2.1 l.2.2.1 ho rfl rfl rfl ha new ?_)⟩
  have:del (upd (upd H1 a (mP a (.ref C) dx)) dx (Uc dx f y)) a=upd H1 dx (Uc dx f y):=by
   funext b
   by_cases hb:b=a
   ·subst hb;rw[oJ,aj ne,na]
   ·rw[iN hb]
    by_cases hd:b=dx
    ·subst hd;rw[aA,aA]
    ·rw[aj hd,aj hd,aj hb]
  rw[this];exact q
def JU(K:Frag)(f:Str)(ta:TE):TE:=fun σ H Q=>ta σ H fun x H1=>∃a C fI dx y,x=.ref a∧H1 a=some (mr a (.ref C) (some dx))∧H1 dx=some (Uc dx f y)∧V1 K C fI f∧Q y H1
theorem DA{o:Expr}{to:TE}(ho:PE X o to)(QH:attributeBase o f X.env (eval o X.env)=eval o X.env:=by rfl):PE X (.Attribute o f apos) (JU X.K f to):=by
 intro pins s σ H Q I h;refine xF QH (G4 (ho pins s σ H _ I h) ?_);rintro u s1 ⟨v,H1,I1,rv,a,C,fI,dx,y,ev,e1,e2,c,q⟩;subst ev;obtain rfl:u=Value.ref a:=rv;refine Cr I1 ?_ e2 c fun u' s3 I3 ry=>⟨y,_,I3,ry,q⟩
 obtain⟨⟨o,vs,ho,V6,Xh,Xg⟩,_,_⟩:=(show bq X.prog X.w H1 s1.heap a (mr a (.ref C) (some dx))from I1.hok a _ e1)
 exact⟨o,vs,ho,V6,Xh,Xg⟩
end
section
variable{X:Cx}{pins:List (Addr×Obj)}{σ:St}{H:Hp}{s:Shared}{a:Addr}{kvs:List (Key×V)}
theorem Inv.Rx(I:Inv X pins σ H s)(e:H a=some (.dK kvs)):∃o,Inv X pins σ (upd H a (.Rx o (.dK kvs))) s:=by
 obtain⟨z,y,vs,r,o,es,ep,ho,rest⟩:=(show bq X.prog X.w H s.heap a (.dK kvs)from I.hok a _ e)
 refine⟨o,?_⟩
 have un:Un X.fs [] H (upd H a (.Rx o (.dK kvs))) s.heap s.heap:=by
  refine⟨fun b u q _ _ _=>q,fun b u q _ _ _=>⟨u.slots,q⟩,fun b u q n _=>?_,fun b u q _=>⟨u,q⟩,fun b xs q=>?_,fun b u v q=>?_,fun b ps q=>⟨#[],?_⟩⟩
  ·have:b≠a:=fun w=>by subst w;rw[n]at e;cases e
   rw[aj this];exact n
  ·have:b≠a:=qg q e (by intro w;cases w);rw[aj this];exact q
  ·have:b≠a:=qg q e (by intro w;cases w);rw[aj this];exact q
  ·have:b≠a:=qg q e (by intro w;cases w);rw[aj this,q];simp
 have hok:Ql X.prog X.w (upd H a (.Rx o (.dK kvs))) s.heap:=fun b u q=>by
  by_cases hb:b=a
  ·subst hb;rw[aA]at q
   cases q
   exact⟨ho,z,y,vs,r,o,es,ep,ho,rest⟩
  ·rw[aj hb]at q;refine(I.hok b u q).stay (fun _ _ _ w=>w) (fun c w=>?_) fun c xs w=>?_
   ·have:c≠a:=qg w e (by intro w;cases w);rw[aj this];exact w
   ·have:c≠a:=qg w e (by intro w;cases w);rw[aj this];exact w
 exact I.un (t':=s.toks) un hok
def tFz(t:TE):TE:=fun σ H Q=>t σ H fun v H1=>Q v H1∨∃a kvs,H1 a=some (.dK kvs)∧∀o,Q v (upd H1 a (.Rx o (.dK kvs)))
theorem Gb{e:Expr}{t:TE}(h:PE X e t):PE X e (tFz t):=fun pins s σ H Q I q=>
 G4 (h pins s σ H _ I q) fun u s1 ⟨v,H1,I1,rv,q1⟩=>by
  rcases q1 with q1|⟨a,kvs,ea,q1⟩
  ·exact⟨v,H1,I1,rv,q1⟩
  ·obtain⟨o,I2⟩:=I1.Rx ea;exact⟨v,_,I2,rv,q1 o⟩
end
def Itd(a:Addr)(o:Obj)(kvs:List (Key×V)):It:=
 ⟨fun i H=>H a=some (.Rx o (.dK kvs))∧i<kvs.length,fun i H x H'=>H'=H∧∃k v,kvs[i]? =some (k,v)∧x=kV k,fun i H=>H a=some (.Rx o (.dK kvs))∧kvs.length≤i⟩
theorem Lj{P:Program}{w:World}{k:Key}{u:Value}(h:(bF P w).is k u=true):aQ (kV k) u:=by
 rw[vL]at h;rcases bW h with⟨i,t,rfl,rfl⟩|⟨x,t,rfl,rfl⟩
 ·exact⟨t,rfl⟩
 ·exact⟨t,rfl⟩
theorem KV.at{kvs:List (Key×V)}{vs:List (Key×Value)}(r:KV kvs vs){i:Nat}{k:Key}{v:V}(e:kvs[i]? =some (k,v)):∃u,vs[i]? =some (k,u):=by
 unfold KV at r
 induction r generalizing i with
 |nil=>simp at e
 |@cons p q ps qs h t ih=>
  cases i with
  |zero=>simp at e;subst e;exact⟨q.2,by simp[show k=q.1 from h.1]⟩
  |succ i=>exact ih (by simpa using e)
theorem wf{P:Program}{w:World}{H:Hp}{h:Heap}{a:Addr}{o:Obj}{es:Array DictEntry}{ep:Nat}{kvs:List (Key×V)}(ed:o.data=.dict es ep)(ok:Ql P w H h)(e:H a=some (.Rx o (.dK kvs))):
  (a==sysModules)=false∧∃vs,KV kvs vs∧h.DictAt (bF P w) a vs ep:=by
 obtain⟨ho,_,y,vs,r,o',YW,ep',T6,c1,c2,rest⟩:=(show bq P w H h a (.Rx o (.dK kvs))from ok a _ e)
 rw[ho]at T6
 cases T6
 rw[ed]at c2
 cases c2
 exact⟨y,vs,r,o,es,ho,c1,ed,rest⟩
theorem xL{P:Program}{w:World}{K:W.Frag}{tg:Expr}(a it:Addr)(o:Obj){es:Array DictEntry}{ep:Nat}(kvs:List (Key×V))(ed:o.data=.dict es ep):
  uV P w K tg (Itd a o kvs) [it] it (fun i h=>h.IsKeyIter it a i kvs.length ep) where
 mem:=by simp
 obj:=fun i h st b hb=>by
  have e:b=it:=by simpa using hb
  subst e;obtain⟨q,e,c,d⟩:=st;exact⟨q,e,fun v z=>by rw[d]at z;cases z⟩
 keep:=fun i h h' st k=>st.at fun q e=>k it (by simp) q e
 item:=by
  intro X hP hw hK hc i pins s σ H E I hf st hg;subst hP hw hK;obtain⟨ea,hi⟩:=hg;obtain⟨_,vs,r,dd⟩:=wf ed I.hok ea;obtain⟨⟨k,v⟩,hx⟩:∃p,kvs[i]? =some p:=⟨kvs[i],by simp[hi]⟩
  obtain⟨u,hu⟩:=r.at hx;obtain⟨f0,f1,f2,f3,f4,f5⟩:=hf it (by simp);have hl:=r.length;rw[hl]at st ⊢;refine wpAny_pyNext_dict_item st dd hu fun key h' Wu Ug sb=>?_;have I1:Inv X pins σ H { s with heap:=h' }:=I.turned (t':=s.toks) (fun b q hb e=>(sb.2 b hb).trans e) f0 f1 f3 f4 f5;exact⟨key,rfl,letGo_keyiter Ug ⟨kV k,H,I1,Lj Wu,⟨rfl,k,v,hx,rfl⟩,Ug,fun b hb=>(hf b hb).1⟩⟩
 done:=by intro X hP hw hK hc i pins s σ H E I hf st hg;subst hP hw hK;obtain⟨ea,hi⟩:=hg;obtain⟨_,vs,r,dd⟩:=wf ed I.hok ea;obtain⟨f0,f1,f2,f3,f4,f5⟩:=hf it (by simp);have hl:=r.length;rw[hl]at st hi;exact wpAny_pyNext_dict_end (I.ok.hd hc) st dd (by simp;omega) fun h' eb=>⟨rfl,I.turned (t':=s.toks) (fun b q hb e=>eb b q hb e) f0 f1 f3 f4 f5⟩
 self:=fun _ _ _ _ _ st h=>wpAny_pyIter_keyiter st h
def NB(tl:TE):TI:=fun σ H R=>tl σ H fun x H1=>∃a o kvs,x=.ref a∧H1 a=some (.Rx o (.dK kvs))∧R (Itd a o kvs) H1
theorem Dy{X:Cx}{tg l:Expr}{tl:TE}(hl:PE X l tl):PI X tg l (NB tl):=by
 intro pins s σ H R I h;refine G4 (hl pins s σ H _ I h) ?_;rintro v s1 ⟨x,H1,I1,r1,q1⟩;obtain⟨a,o,kvs,e,ea,q⟩:=q1;subst e
 cases r1
 obtain⟨es,ep,ed⟩:∃es ep,o.data=.dict es ep:=by
  obtain⟨ho,_,_,_,_,o',es,ep,T6,_,c2,_⟩:=(show bq X.prog X.w H1 s1.heap a (.Rx o (.dK kvs))from I1.hok a _ ea)
  rw[ho]at T6
  cases T6
  exact⟨es,ep,c2⟩
 obtain⟨sm,vs,r,dd⟩:=wf ed I1.hok ea;refine wpAny_pyIter_dict sm dd ?_;refine⟨s1.heap.objs.size,[s1.heap.objs.size],_,_,H1,rfl,I1.kept (t':=s1.toks) fun b q e=>Heap.get?_push_of_some _ e,xL a _ o kvs ed,⟨_,Heap.get?_push_size _ rfl,rfl,by rw[r.length];rfl⟩,fun b hb=>?_,q⟩;have e:b=s1.heap.objs.size:=by simpa using hb
 subst e;exact I1.T8 (abl _) (I1.hok.fresh (abl _))
end L2
namespace L3
open PySem PySem.Spec PyProof.Rows L2
abbrev St:=L2.St
abbrev PK:=Sum Int (List Nat)
noncomputable def S(l:List Nat):Str:=⟨l.toArray⟩
theorem Mf(l:List Nat):(S l).cps.toList=l:=by simp[S]
theorem NV(x:Str):S x.cps.toList=x:=by cases x;simp[S]
theorem Cg{a b:List Nat}(h:S a=S b):a=b:=by have:=congrArg (fun x=>x.cps.toList) h;simpa[S]using this
theorem fH(l:List Nat):(S l).length=l.length:=by show(S l).cps.size=_;simp[S]
def tk:PK→Key
 |.inl i=>.inl i
 |.inr l=>.inr (S l)
theorem vm{a b:PK}(h:tk a=tk b):a=b:=by
 cases a<;>cases b<;>simp[tk]at h
 ·rw[h]
 ·rw[Cg h]
inductive PV where
 |non|bl (b:Bool)|int (i:Int)|str (x:List Nat)|ty (n:String)|cls (C:Nat)
 |tup (xs:List PV)|lst (xs:List PV)|Q8 (xs:List PV)|dct (kvs:List (PK×PV))|ins (C:Nat) (fs:List (Str×PV))
 |ref (i:Nat)|exc (C:Nat)|SX (C:Nat) (v:PV)
mutual
def PV.pure:PV→Bool
 |.ref _=>false
 |.tup xs=>ag xs
 |.lst xs=>ag xs
 |.Q8 xs=>ag xs
 |.dct kvs=>aE kvs
 |.ins _ fs=>lT fs
 |.SX _ v=>v.pure
 |_=>true
def ag:List PV→Bool
 |[]=>true
 |x::r=>x.pure&&ag r
def aE:List (PK×PV)→Bool
 |[]=>true
 |(_,x)::r=>x.pure&&aE r
def lT:List (Str×PV)→Bool
 |[]=>true
 |(_,x)::r=>x.pure&&lT r
end
theorem kr:∀(l:List (PK×PV)),aE l=ag (l.map (·.2))
 |[]=>by simp[ag,aE]
 |(k,x)::r=>by simp[ag,aE,kr r]
theorem oj:∀(l:List (Str×PV)),lT l=ag (l.map (·.2))
 |[]=>by simp[ag,lT]
 |(k,x)::r=>by simp[ag,lT,oj r]
noncomputable def XM(C:Nat):Str:=if C<500 then "at" else "word"
abbrev Tab:=Nat→Option Addr
mutual
inductive aF(K:W.Frag)(T:Tab)(F:Hp)(m:List Addr):PV→V→Prop where
 |non:aF K T F m .non .non
 |bl (b:Bool):aF K T F m (.bl b) (.bl b)
 |int (i:Int):aF K T F m (.int i) (.int i)
 |str (x:List Nat):aF K T F m (.str x) (.str (S x))
 |ty (n:String):aF K T F m (.ty n) (.ty n)
 |cls {C:Nat} {a:Addr} (c:T C=some a):aF K T F m (.cls C) (.ref a)
 |tup {ps:List PV} {a:Addr} {vs:List V} (e:PN K F a vs) (r:au K T F m ps vs):aF K T F m (.tup ps) (.ref a)
 |lst {ps:List PV} {a:Addr} {vs:List V} (e:F a=some (.lst vs)) (r:au K T F m ps vs):aF K T F m (.lst ps) (.ref a)
 |Q8 {ps:List PV} {a:Addr} {vs:List V} (e:O4 K F a vs) (r:au K T F m ps vs):aF K T F m (.Q8 ps) (.ref a)
 |dct {kps:List (PK×PV)} {a:Addr} {o:Obj} {kvs:List (Key×V)} (e:F a=some (.Rx o (.dK kvs))) (k:kvs.map (·.1)=kps.map (fun p=>tk p.1)) (r:au K T F m (kps.map (·.2)) (kvs.map (·.2))):aF K T F m (.dct kps) (.ref a)
 |ins {C:Nat} {fs:List (Str×PV)} {a Ca dx:Addr} {Xz:List (Str×V)} (c:T C=some Ca) (e:F a=some (.ins Ca dx Xz)) (d:F dx=some (.own a)) (k:Xz.map (·.1)=fs.map (·.1)) (r:au K T F m (fs.map (·.2)) (Xz.map (·.2))):aF K T F m (.ins C fs) (.ref a)
 |ref {i:Nat} {a:Addr} (e:m[i]? =some a):aF K T F m (.ref i) (.ref a)
 |exc {C:Nat} {a Ca:Addr} {dx:Option Addr} (c:T C=some Ca) (e:F a=some (mr a (.ref Ca) dx)):aF K T F m (.exc C) (.ref a)
 |SX {C:Nat} {a Ca dx:Addr} {p:PV} {y:V} (c:T C=some Ca) (e:F a=some (mr a (.ref Ca) (some dx))) (d:F dx=some (Uc dx (XM C) y)) (r:aF K T F m p y):aF K T F m (.SX C p) (.ref a)
inductive au(K:W.Frag)(T:Tab)(F:Hp)(m:List Addr):List PV→List V→Prop where
 |nil:au K T F m [] []
 |cons {p:PV} {v:V} {ps:List PV} {vs:List V} (r:aF K T F m p v) (t:au K T F m ps vs):au K T F m (p::ps) (v::vs)
end
section
variable{K:W.Frag}{T:Tab}{F F':Hp}{m m':List Addr}
mutual
theorem aF.mono(hF:cA F F')(hm:∀(i:Nat)(a:Addr),m[i]? =some a→m'[i]? =some a):∀{p:PV}{v:V},aF K T F m p v→aF K T F' m' p v
 |_,_,.non=>.non
 |_,_,.bl b=>.bl b
 |_,_,.int i=>.int i
 |_,_,.str x=>.str x
 |_,_,.ty n=>.ty n
 |_,_,.cls c=>.cls c
 |_,_,.tup e r=>.tup (hF.QB e) (au.mono hF hm r)
 |_,_,.lst e r=>.lst (hF _ _ e) (au.mono hF hm r)
 |_,_,.Q8 e r=>.Q8 (hF.seq e) (au.mono hF hm r)
 |_,_,.dct e k r=>.dct (hF _ _ e) k (au.mono hF hm r)
 |_,_,.ins c e d k r=>.ins c (hF _ _ e) (hF _ _ d) k (au.mono hF hm r)
 |_,_,.ref e=>.ref (hm _ _ e)
 |_,_,.exc c e=>.exc c (hF _ _ e)
 |_,_,.SX c e d r=>.SX c (hF _ _ e) (hF _ _ d) (aF.mono hF hm r)
theorem au.mono(hF:cA F F')(hm:∀(i:Nat)(a:Addr),m[i]? =some a→m'[i]? =some a):∀{p:List PV}{v:List V},au K T F m p v→au K T F' m' p v
 |_,_,.nil=>.nil
 |_,_,.cons r t=>.cons (aF.mono hF hm r) (au.mono hF hm t)
end
mutual
theorem aF.H_:∀{p:PV}{v:V},aF K T F m p v→p.pure=true→aF K T F m' p v
 |_,_,.non,_=>.non
 |_,_,.bl b,_=>.bl b
 |_,_,.int i,_=>.int i
 |_,_,.str x,_=>.str x
 |_,_,.ty n,_=>.ty n
 |_,_,.cls c,_=>.cls c
 |_,_,.tup e r,h=>.tup e (au.H_ r (by simpa[PV.pure]using h))
 |_,_,.lst e r,h=>.lst e (au.H_ r (by simpa[PV.pure]using h))
 |_,_,.Q8 e r,h=>.Q8 e (au.H_ r (by simpa[PV.pure]using h))
 |_,_,.dct e k r,h=>.dct e k (au.H_ r (by simpa[PV.pure,kr]using h))
 |_,_,.ins c e d k r,h=>.ins c e d k (au.H_ r (by simpa[PV.pure,oj]using h))
 |_,_,.ref e,h=>by simp[PV.pure]at h
 |_,_,.exc c e,_=>.exc c e
 |_,_,.SX c e d r,h=>.SX c e d (aF.H_ r (by simpa[PV.pure]using h))
theorem au.H_:∀{p:List PV}{v:List V},au K T F m p v→ag p=true→au K T F m' p v
 |_,_,.nil,_=>.nil
 |_,_,.cons r t,h=>by simp only[ag,abk]at h;exact .cons (aF.H_ r h.1) (au.H_ t h.2)
end
theorem au.length:∀{p:List PV}{v:List V},au K T F m p v→p.length=v.length
 |_,_,.nil=>rfl
 |_,_,.cons _ t=>by simp[au.length t]
theorem au.get:∀{ps:List PV}{vs:List V}{i:Nat}{p:PV},au K T F m ps vs→ps[i]? =some p→∃v,vs[i]? =some v∧aF K T F m p v
 |_,_,_,_,.nil,e=>by simp at e
 |_,_,0,_,.cons r _,e=>by simp at e;subst e;exact⟨_,rfl,r⟩
 |_,_,i+1,p,.cons _ t,e=>by obtain⟨u,h1,h2⟩:=au.get (i:=i) (p:=p) t (by simpa using e);exact⟨u,by simpa using h1,h2⟩
theorem au.append:∀{ps qs:List PV}{vs ws:List V},au K T F m ps vs→au K T F m qs ws→au K T F m (ps++qs) (vs++ws)
 |_,_,_,_,.nil,s=>s
 |_,_,_,_,.cons r t,s=>.cons r (au.append t s)
theorem au.take:∀{ps:List PV}{vs:List V}(n:Nat),au K T F m ps vs→au K T F m (ps.take n) (vs.take n)
 |_,_,0,_=>.nil
 |_,_,_+1,.nil=>.nil
 |_,_,n+1,.cons r t=>.cons r (au.take n t)
theorem au.drop:∀{ps:List PV}{vs:List V}(n:Nat),au K T F m ps vs→au K T F m (ps.drop n) (vs.drop n)
 |_,_,0,r=>r
 |_,_,_+1,.nil=>.nil
 |_,_,n+1,.cons _ t=>au.drop n t
theorem au.set{x:PV}{u:V}(r:aF K T F m x u):∀{xs:List PV}{us:List V}(i:Nat),au K T F m xs us→au K T F m (xs.set i x) (us.set i u)
 |_,_,_,.nil=>.nil
 |_,_,0,.cons _ t=>.cons r t
 |_,_,i+1,.cons q t=>.cons q (au.set r i t)
end
noncomputable def Sv:Nat→List Str
 |600=> ["parts","counted"]
 |601=> ["pen","pieces"]
 |602=> ["loops","pieces"]
 |603=> ["numbers","blocks"]
 |604=> ["text","at"]
 |605=> ["block","slots","body","place","walks"]
 |606=> ["things","taken"]
 |607=> ["program","pen","frames","stack","done","result"]
 |608=> ["command","nodes","yes","between"]
 |609=> ["pieces","opened","counted"]
 |_=> []
inductive PO where
 |lst (xs:List PV)|dct (kvs:List (PK×PV))|G7 (v:PV)|obj (C:Nat) (ps:List PV)
section
variable(K:W.Frag)(T:Tab)(F:Hp)(m:List Addr)
def uW(H:Hp)(a:Addr):PO→Prop
 |.lst ps=>F a=none∧∃vs,H a=some (.lst vs)∧au K T F m ps vs
 |.dct kps=>F a=none∧∃kvs,H a=some (.dK kvs)∧kvs.map (·.1)=kps.map (fun p=>tk p.1)∧au K T F m (kps.map (·.2)) (kvs.map (·.2))
 |.G7 p=>aF K T F m p (.ref a)∧p.pure=true∧∃o,F a=some o
 |.obj C ps=>F a=none∧∃vs,(∃Ca dx,T C=some Ca∧H a=some (.ins Ca dx ((Sv C).zip vs))∧F dx=some (.own a))∧vs.length≤(Sv C).length∧au K T F m ps vs
structure RelH(h:List PO)(H:Hp):Prop where
 same:cA F H
 len:h.length=m.length
 obj:∀(i:Nat)(o:PO)(a:Addr),h[i]? =some o→m[i]? =some a→uW K T F m H a o
 nd:m.Nodup
def lG(ρ:List (Option PV))(σ:St):Prop:=ρ.length=σ.length∧∀(i:Nat)(p:PV),ρ[i]? =some (some p)→∃v,σ[i]? =some (some v)∧aF K T F m p v
structure gD(ρ:List (Option PV))(h:List PO)(σ:St)(H:Hp):Prop extends RelH K T F m h H where
 env:lG K T F m ρ σ
end
structure aP(F:Hp)(m:List Addr)(H F':Hp)(m':List Addr)(H':Hp):Prop where
 fz:cA F F'
 pre:∃t,m'=m++t
 fr:∀b o,H b=some o→b∉m→H' b=some o
 dom:∀b o,H b=some o→∃o',H' b=some o'
 new:∀(i:Nat)(a:Addr),m.length≤i→m'[i]? =some a→H a=none
 S_:∀a o,F' a=some o→F a=some o∨H a=none∨a∈m
section
variable{K:W.Frag}{T:Tab}{F F1 F2 H H1 H2:Hp}{m m1 m2:List Addr}
theorem aP.refl:aP F m H F m H:=⟨cA.refl _,⟨[],by simp⟩,fun _ _ h _=>h,fun _ o h=>⟨o,h⟩,fun i a h e=>(by rw[List.getElem?_eq_none h]at e;cases e),fun _ _ h=>.inl h⟩
theorem aP.idx(s:aP F m H F1 m1 H1):∀(i:Nat)(a:Addr),m[i]? =some a→m1[i]? =some a:=fun i a e=>by
 obtain⟨t,rfl⟩:=s.pre
 have hi:i<m.length:=by
  rcases Nat.lt_or_ge i m.length with h|h
  ·exact h
  ·rw[List.getElem?_eq_none h]at e;cases e
 rw[List.getElem?_append_left hi];exact e
theorem aP.mem(s:aP F m H F1 m1 H1){a:Addr}(h:a∈m1):a∈m∨H a=none:=by
 obtain⟨i,e⟩:=List.mem_iff_getElem?.mp h;obtain⟨t,rfl⟩:=s.pre;rcases Nat.lt_or_ge i m.length with hi|hi
 ·rw[List.getElem?_append_left hi]at e;exact .inl (List.mem_of_getElem? e)
 ·exact .inr (s.new i a hi e)
theorem aP.back(s:aP F m H F1 m1 H1){a:Addr}(h:H1 a=none):H a=none:=by
 cases q:H a with
 |none=>rfl
 |some o=>obtain⟨o',e⟩:=s.dom a o q;rw[h]at e;cases e
theorem aP.trans(s:aP F m H F1 m1 H1)(t:aP F1 m1 H1 F2 m2 H2):aP F m H F2 m2 H2 where
 fz:=s.fz.trans t.fz
 pre:=by obtain⟨x,rfl⟩:=s.pre;obtain⟨y,rfl⟩:=t.pre;exact⟨x++y,by simp⟩
 fr:=fun b o h n=>t.fr b o (s.fr b o h n) fun z=>by
  rcases s.mem z with q|q
  ·exact n q
  ·rw[h]at q;cases q
 dom:=fun b o h=>by obtain⟨o',e⟩:=s.dom b o h;exact t.dom b o' e
 new:=fun i a hi e=>by
  obtain⟨x,rfl⟩:=s.pre;rcases Nat.lt_or_ge i (m++x).length with h|h
  ·obtain⟨y,rfl⟩:=t.pre;rw[List.getElem?_append_left h]at e;exact s.new i a hi e
  ·exact s.back (t.new i a h e)
 S_:=fun a o h=>by
  rcases t.S_ a o h with q|q|q
  ·exact s.S_ a o q
  ·exact .inr (.inl (s.back q))
  ·rcases s.mem q with z|z
   ·exact .inr (.inr z)
   ·exact .inr (.inl z)
theorem aP.rep(s:aP F m H F1 m1 H1){p:PV}{v:V}(r:aF K T F m p v):aF K T F1 m1 p v:=r.mono s.fz s.idx
theorem aP.reps(s:aP F m H F1 m1 H1){p:List PV}{v:List V}(r:au K T F m p v):au K T F1 m1 p v:=r.mono s.fz s.idx
theorem aP.env(s:aP F m H F1 m1 H1){ρ:List (Option PV)}{σ:St}(r:lG K T F m ρ σ):lG K T F1 m1 ρ σ:=⟨r.1,fun i p e=>by obtain⟨v,h1,h2⟩:=r.2 i p e;exact⟨v,h1,s.rep h2⟩⟩
theorem aP.lay{h:List PO}{p:Addr}{o:HO}(R:RelH K T F m h H)(hp:H p=none):aP F m H (upd F p o) m (upd H p o)∧RelH K T (upd F p o) m h (upd H p o):=by
 have hF:F p=none:=R.same.free hp;have sF:cA F (upd F p o):=fx hF o;refine⟨⟨sF,⟨[],by simp⟩,fun b u e _=>by rw[aj (ar e hp)];exact e,fun b u e=>⟨u,by rw[aj (ar e hp)];exact e⟩,fun i a hi e=>(by rw[List.getElem?_eq_none hi]at e;cases e),fun a u e=>?_⟩,?_⟩
 ·by_cases ha:a=p
  ·subst ha;exact .inr (.inl hp)
  ·rw[aj ha]at e;exact .inl e
 ·refine⟨fun b u e=>?_,R.len,fun i ob a h1 h2=>?_,R.nd⟩
  ·by_cases ha:b=p
   ·subst ha;rw[aA]at e ⊢;exact e
   ·rw[aj ha]at e ⊢;exact R.same b u e
  ·have q:=R.obj i ob a h1 h2;have mono:∀{ps vs},au K T F m ps vs→au K T (upd F p o) m ps vs:=fun r=>r.mono sF fun _ _ h=>h
   cases ob with
   |lst ps=>obtain⟨f,vs,e,r⟩:=q;have ne:a≠p:=ar e hp;exact⟨by rw[aj ne];exact f,vs,by rw[aj ne];exact e,mono r⟩
   |dct kps=>obtain⟨f,kvs,e,k,r⟩:=q;have ne:a≠p:=ar e hp;exact⟨by rw[aj ne];exact f,kvs,by rw[aj ne];exact e,k,mono r⟩
   |G7 pv=>obtain⟨r,pu,u,e⟩:=q;exact⟨r.mono sF fun _ _ h=>h,pu,u,sF _ _ e⟩
   |obj C fs=>obtain⟨f,Xz,⟨Ca,dx,c,e,d⟩,k,r⟩:=q;have ne:a≠p:=ar e hp;exact⟨by rw[aj ne];exact f,Xz,⟨Ca,dx,c,by rw[aj ne];exact e,sF _ _ d⟩,k,mono r⟩
end
inductive Res(α:Type) where
 |ok (a:α) (h:List PO)|exc (e:PV) (h:List PO)|bad
noncomputable def Res.bind{α β:Type}(r:Res α)(k:α→List PO→Res β):Res β:=match r with
 |.ok a h=>k a h
 |.exc e h=>.exc e h
 |.bad=>.bad
@[simp] theorem Res.Ov{α β:Type}(a:α)(h:List PO)(k:α→List PO→Res β):(Res.ok a h).bind k=k a h:=rfl
def ky(K:W.Frag)(T:Tab)(F:Hp)(m:List Addr)(e:PV)(cls:Value)(dx:Option Addr):Prop:=match e with
 |.cls C=>∃Ca,T C=some Ca∧cls=.ref Ca∧dx=none
 |.SX C v=>∃Ca d y,T C=some Ca∧cls=.ref Ca∧dx=some d∧F d=some (Uc d (XM C) y)∧aF K T F m v y
 |_=>False
theorem ky.H_{K:W.Frag}{T:Tab}{F:Hp}{m m':List Addr}{e:PV}{cls:Value}{dx:Option Addr}(h:ky K T F m e cls dx)(p:e.pure=true):ky K T F m' e cls dx:=by
 unfold ky at h ⊢
 split at h
 ·exact h
 ·obtain⟨Ca,d,y,h1,h2,h3,h4,h5⟩:=h;exact⟨Ca,d,y,h1,h2,h3,h4,h5.H_ p⟩
 ·exact h.elim
def aB{α β:Type}(K:W.Frag)(T:Tab)(R:Hp→List Addr→α→β→Prop)(F:Hp)(m:List Addr)(H:Hp)(Q:β→Hp→Prop)(Ew:XK):Res α→Prop
 |.ok a h'=>∀F' m' H' x,aP F m H F' m' H'→RelH K T F' m' h' H'→R F' m' a x→Q x H'
 |.exc e h'=>∀F' m' H' cls dx,aP F m H F' m' H'→RelH K T F' m' h' H'→ky K T F' m' e cls dx→Ew cls dx H'
 |.bad=>False
section
variable{K:W.Frag}{T:Tab}{F F1 H H1:Hp}{m m1:List Addr}{α β γ δ:Type}{R:Hp→List Addr→α→β→Prop}{R':Hp→List Addr→γ→δ→Prop}{Ew:XK}
theorem aB.step{Q:β→Hp→Prop}{res:Res α}(s:aP F m H F1 m1 H1)(p:aB K T R F m H Q Ew res):aB K T R F1 m1 H1 Q Ew res:=by
 cases res with
 |ok a h=>exact fun F' m' H' x t=>p F' m' H' x (s.trans t)
 |exc e h=>exact fun F' m' H' c d t=>p F' m' H' c d (s.trans t)
 |bad=>exact p
theorem aB.bind{Q:δ→Hp→Prop}{res:Res α}{k:α→List PO→Res γ}(p:aB K T R' F m H Q Ew (res.bind k)):
  aB K T R F m H (fun x H1=>∃F1 m1 h1 a,aP F m H F1 m1 H1∧RelH K T F1 m1 h1 H1∧R F1 m1 a x∧aB K T R' F1 m1 H1 Q Ew (k a h1)) Ew res:=by
 cases res with
 |ok a h=>exact fun F' m' H' x s r q=>⟨F',m',h,a,s,r,q,aB.step s p⟩
 |exc e h=>exact p
 |bad=>exact p
theorem aB.mono{Q Q':β→Hp→Prop}{res:Res α}(p:aB K T R F m H Q Ew res)(hq:∀x H',Q x H'→Q' x H'):aB K T R F m H Q' Ew res:=by
 cases res with
 |ok a h=>exact fun F' m' H' x s r q=>hq _ _ (p F' m' H' x s r q)
 |exc e h=>exact p
 |bad=>exact p
theorem aB.here{Q:β→Hp→Prop}{a:α}{h:List PO}{x:β}(p:aB K T R F m H Q Ew (.ok a h))(R0:RelH K T F m h H)(r:R F m a x):Q x H:=p F m H x .refl R0 r
end
abbrev Ev:=List (Option PV)
abbrev Ex:=Ev→List PO→Res PV
abbrev Tx:=Ev→List PO→Res Bool
abbrev Ax:=Ev→List PO→Res (List PV)
def RB:Hp→List Addr→Bool→Bool→Prop:=fun _ _ a b=>a=b
section
variable(X:Cx)(T:Tab)(Ew:XK)
noncomputable def wE(f:Ex):TE:=fun σ H Q=>∃F m ρ h,gD X.K T F m ρ h σ H∧aB X.K T (aF X.K T) F m H Q Ew (f ρ h)
noncomputable def wT(f:Tx):TT:=fun σ H Q=>∃F m ρ h,gD X.K T F m ρ h σ H∧aB X.K T RB F m H Q Ew (f ρ h)
noncomputable def wA(f:Ax):TA:=fun σ H Q=>∃F m ρ h,gD X.K T F m ρ h σ H∧aB X.K T (au X.K T) F m H Q Ew (f ρ h)
@[irreducible] def RE(e:Expr)(f:Ex):Prop:=PE X e (wE X T Ew f)
@[irreducible] def RT(e:Expr)(f:Tx):Prop:=PT X e (wT X T Ew f)
@[irreducible] def RA(es:List Expr)(f:Ax):Prop:=PA X es (wA X T Ew f)
end
theorem PE.imp{X:Cx}{e:Expr}{t t':TE}(h:PE X e t)(i:∀ σ H Q,t' σ H Q→t σ H Q):PE X e t':=fun pins s σ H Q I q=>h pins s σ H Q I (i _ _ _ q)
theorem PT.imp{X:Cx}{e:Expr}{t t':TT}(h:PT X e t)(i:∀ σ H Q,t' σ H Q→t σ H Q):PT X e t':=fun pins s σ H Q I q=>h pins s σ H Q I (i _ _ _ q)
theorem PW.imp{X:Cx}{e:Expr}{t t':TT}(h:PW X e t)(i:∀ σ H Q,t' σ H Q→t σ H Q):PW X e t':=fun w pins s σ H Q I q=>h w pins s σ H Q I (i _ _ _ q)
theorem PA.imp{X:Cx}{es:List Expr}{t t':TA}(h:PA X es t)(i:∀ σ H Q,t' σ H Q→t σ H Q):PA X es t':=fun pos pins s σ H Q I q=>h pos pins s σ H Q I (i _ _ _ q)
theorem PS.imp{X:Cx}{e:Stmt}{t t':TS}(h:PS X e t)(i:∀D σ H,t' D σ H→t D σ H):PS X e t':=fun pins s σ H D I q=>h pins s σ H D I (i _ _ _ q)
theorem Te.imp{X:Cx}{e:List Stmt}{t t':TS}(h:Te X e t)(i:∀D σ H,t' D σ H→t D σ H):Te X e t':=fun pins s σ H D I q=>h pins s σ H D I (i _ _ _ q)
noncomputable def ao(h:List PO):PV→PV
 |.ref i=>match h[i]? with
  |some (.G7 q)=>q
  |_=>.ref i
 |p=>p
theorem RelH.UJ{K:W.Frag}{T:Tab}{F H:Hp}{m:List Addr}{h:List PO}(R:RelH K T F m h H){p:PV}{v:V}(r:aF K T F m p v):aF K T F m (ao h p) v:=by
 cases r with
 |@ref i a e=>
  show aF K T F m (match h[i]? with|some (.G7 q)=>q|_=>.ref i) (.ref a)
  cases q:h[i]? with
  |none=>exact .ref e
  |some o=>
   cases o with
   |G7 p=>exact(R.obj i _ a q e).1
   |lst _=>exact .ref e
   |dct _=>exact .ref e
   |obj _ _=>exact .ref e
 |non=>exact .non
 |bl b=>exact .bl b
 |int b=>exact .int b
 |str b=>exact .str b
 |ty b=>exact .ty b
 |cls c=>exact .cls c
 |tup e r=>exact .tup e r
 |lst e r=>exact .lst e r
 |Q8 e r=>exact .Q8 e r
 |dct e k r=>exact .dct e k r
 |ins c e d k r=>exact .ins c e d k r
 |exc c e=>exact .exc c e
 |SX c e d r=>exact .SX c e d r
noncomputable def ae(i:Nat):Ex:=fun ρ h=>match ρ[i]? with
 |some (some p)=>.ok (ao h p) h
 |_=>.bad
noncomputable def cK(v:PV):Ex:=fun _ h=>.ok v h
def c1(g:PV→List PO→Res PV)(a:Ex):Ex:=fun ρ h=>(a ρ h).bind g
def c2(g:PV→PV→List PO→Res PV)(a b:Ex):Ex:=fun ρ h=>(a ρ h).bind fun x h1=>(b ρ h1).bind fun y h2=>g x y h2
def cN(g:List PV→List PO→Res PV)(a:Ax):Ex:=fun ρ h=>(a ρ h).bind g
noncomputable def ak:Ax:=fun _ h=>.ok [] h
def ac(a:Ex)(r:Ax):Ax:=fun ρ h=>(a ρ h).bind fun x h1=>(r ρ h1).bind fun xs h2=>.ok (x::xs) h2
section
variable{X:Cx}{T:Tab}{Ew:XK}
theorem FU{e:Expr}{t:TE}{f:Ex}(h:PE X e t)(i:∀ σ H Q F m ρ h,gD X.K T F m ρ h σ H→aB X.K T (aF X.K T) F m H Q Ew (f ρ h)→t σ H Q):RE X T Ew e f:=by with_unfolding_all exact(
 PE.imp h (by rintro σ H Q ⟨F,m,ρ,h,R,p⟩;exact i σ H Q F m ρ h R p))
theorem rv(i:Nat){x:Str}{pos:Pos}(hN:X.N[i]? =some x:=by rfl)(hv:Vis X.env.scope x:=by first|exact Or.inl rfl|exact Or.inr (Or.inl rfl)|exact Or.inr (Or.inr rfl))(hd:nD0 x:=by decide)
  (S8:(x==("__classdict__":Str))=false:=by decide):RE X T Ew (.Name x pos) (ae i):=by with_unfolding_all
 refine FU (AG hN hv hd S8) fun σ H Q F m ρ h R p=>?_;unfold ae at p
 cases q:ρ[i]? with
 |none=>rw[q]at p;exact p.elim
 |some o=>
  cases o with
  |none=>rw[q]at p;exact p.elim
  |some pv=>rw[q]at p;obtain⟨v,h1,h2⟩:=R.env.2 i pv q;exact⟨v,h1,aB.here p R.toRelH (R.UJ h2)⟩
theorem fy{e:Expr}{v:V}{p:PV}(h:PE X e (tC v))(r:∀F m,aF X.K T F m p v):RE X T Ew e (cK p):=by with_unfolding_all exact(
 FU h fun σ H Q F m ρ h R q=>aB.here q R.toRelH (r F m))
theorem ai{i:Int}{j pos}:RE X T Ew (.Constant (.int i) j pos) (cK (.int i)):=by with_unfolding_all exact(
  fy HB fun _ _=>.int i)
theorem je{b:Bool}{j pos}:RE X T Ew (.Constant (.bool b) j pos) (cK (.bl b)):=by with_unfolding_all exact(
  fy KP fun _ _=>.bl b)
theorem km{j pos}:RE X T Ew (.Constant .none j pos) (cK .non):=by with_unfolding_all exact(
  fy HA fun _ _=>.non)
theorem GY{x:Str}(l:List Nat){j pos}(e:x=S l:=by rfl):RE X T Ew (.Constant (.str x) j pos) (cK (.str l)):=by with_unfolding_all exact(
  fy Hx fun _ _=>by rw[e];exact .str l)
def Gm(K:W.Frag)(T:Tab)(r:V→Hp→VK→Prop)(g:PV→List PO→Res PV):Prop:=
 ∀F m h H x p Q Ew,RelH K T F m h H→aF K T F m p x→aB K T (aF K T) F m H Q Ew (g p h)→r x H Q
def dN(K:W.Frag)(T:Tab)(r:R2)(g:PV→PV→List PO→Res PV):Prop:=
 ∀F m h H x y p q Q Ew,RelH K T F m h H→aF K T F m p x→aF K T F m q y→aB K T (aF K T) F m H Q Ew (g p q h)→r x y H Q
def qU(K:W.Frag)(T:Tab)(r:List V→Hp→VK→Prop)(g:List PV→List PO→Res PV):Prop:=
 ∀F m h H xs ps Q Ew,RelH K T F m h H→au K T F m ps xs→aB K T (aF K T) F m H Q Ew (g ps h)→r xs H Q
theorem gD.of{K:W.Frag}{F F1 H H1:Hp}{m m1:List Addr}{ρ:Ev}{h h1:List PO}{σ:St}(R:gD K T F m ρ h σ H)(s:aP F m H F1 m1 H1)(R1:RelH K T F1 m1 h1 H1):gD K T F1 m1 ρ h1 σ H1:=⟨R1,s.env R.env⟩
theorem w1{r:V→Hp→VK→Prop}{g:PV→List PO→Res PV}{fa:Ex}(P:Gm X.K T r g){σ:St}{H:Hp}{Q:VK}(w:wE X T Ew (c1 g fa) σ H Q):tUn r (wE X T Ew fa) σ H Q:=by obtain⟨F,m,ρ,h,R,p⟩:=w;exact⟨F,m,ρ,h,R,(aB.bind p).mono (by rintro x H1 ⟨F1,m1,h1,a,s,R1,ra,p1⟩;exact P F1 m1 h1 H1 x a Q Ew R1 ra p1)⟩
theorem w2{r:R2}{g:PV→PV→List PO→Res PV}{fa fb:Ex}(P:dN X.K T r g){σ:St}{H:Hp}{Q:VK}(w:wE X T Ew (c2 g fa fb) σ H Q):Y9 r (wE X T Ew fa) (wE X T Ew fb) σ H Q:=by obtain⟨F,m,ρ,h,R,p⟩:=w;refine⟨F,m,ρ,h,R,(aB.bind p).mono ?_⟩;rintro x H1 ⟨F1,m1,h1,a,s,R1,ra,p1⟩;refine⟨F1,m1,ρ,h1,R.of s R1,(aB.bind p1).mono ?_⟩;rintro y H2 ⟨F2,m2,h2,b,s2,R2,rb,p2⟩;exact P F2 m2 h2 H2 x y a b Q Ew R2 (s2.rep ra) rb p2
theorem wN{r:List V→Hp→VK→Prop}{g:List PV→List PO→Res PV}{fa:Ax}(P:qU X.K T r g){σ:St}{H:Hp}{Q:VK}(w:wE X T Ew (cN g fa) σ H Q):tCB r (wA X T Ew fa) σ H Q:=by obtain⟨F,m,ρ,h,R,p⟩:=w;exact⟨F,m,ρ,h,R,(aB.bind p).mono (by rintro x H1 ⟨F1,m1,h1,a,s,R1,ra,p1⟩;exact P F1 m1 h1 H1 x a Q Ew R1 ra p1)⟩
theorem jg:RA X T Ew [] ak:=by with_unfolding_all exact(
  PA.imp rR (by rintro σ H Q ⟨F,m,ρ,h,R,p⟩;exact aB.here p R.toRelH .nil))
theorem af{e:Expr}{es:List Expr}{f:Ex}{fs:Ax}(ha:RE X T Ew e f)(hr:RA X T Ew es fs)(hs:sE0 X e es:=by rfl):RA X T Ew (e::es) (ac f fs):=by with_unfolding_all
 refine PA.imp (nA ha hr hs) ?_;rintro σ H Q ⟨F,m,ρ,h,R,p⟩;refine⟨F,m,ρ,h,R,(aB.bind p).mono ?_⟩;rintro x H1 ⟨F1,m1,h1,a,s,R1,ra,p1⟩;refine⟨F1,m1,ρ,h1,R.of s R1,(aB.bind p1).mono ?_⟩;rintro y H2 ⟨F2,m2,h2,b,s2,R2,rb,p2⟩;exact aB.here p2 R2 (.cons (s2.rep ra) rb)
theorem pZ{op:Operator}{r:R2}{g:PV→PV→List PO→Res PV}{a b:Expr}{fa fb:Ex}{pos:Pos}(ho:Pa X (binaryOp op) r)(P:dN X.K T r g)(ha:RE X T Ew a fa)(hb:RE X T Ew b fb):RE X T Ew (.BinOp a op b pos) (c2 g fa fb):=by with_unfolding_all exact(
 PE.imp (KM ho ha hb) fun σ H Q w=>w2 P w)
theorem Ks{op:UnaryOp}{r:V→Hp→VK→Prop}{g:PV→List PO→Res PV}{a:Expr}{fa:Ex}{pos:Pos}(ho:UnR X (unaryOp op) r)(P:Gm X.K T r g)(ha:RE X T Ew a fa):RE X T Ew (.UnaryOp op a pos) (c1 g fa):=by with_unfolding_all exact(
 PE.imp (KL ho ha) fun σ H Q w=>w1 P w)
theorem gO{op:CmpOp}{r:R2}{g:PV→PV→List PO→Res PV}{a b:Expr}{fa fb:Ex}{pos:Pos}(ho:Pa X (compareOp op) r)(P:dN X.K T r g)(ha:RE X T Ew a fa)(hb:RE X T Ew b fb)(hm:behindInMarks op b=false):RE X T Ew (.Compare a [op] [b] pos) (c2 g fa fb):=by with_unfolding_all exact(
 PE.imp (DH ho ha hb hm) fun σ H Q w=>w2 P w)
end
noncomputable def Wk(h:List PO):PV→Option (List PV)
 |.lst xs=>some xs
 |.ref i=>match h[i]? with
  |some (.lst xs)=>some xs
  |_=>none
 |_=>none
def Vh(h:List PO):PV→Option (List PV)
 |.Q8 xs=>some xs
 |p=>Wk h p
noncomputable def W2(h:List PO):PV→Option (List (PK×PV))
 |.dct kvs=>some kvs
 |.ref i=>match h[i]? with
  |some (.dct kvs)=>some kvs
  |_=>none
 |_=>none
def WR(h:List PO):PV→Option (List PV)
 |.tup xs=>some xs
 |p=>Vh h p
section
variable{K:W.Frag}{T:Tab}{F H:Hp}{m:List Addr}{h:List PO}{p:PV}{x:V}{ps:List PV}
theorem nC(R:RelH K T F m h H)(r:aF K T F m p x)(e:Wk h p=some ps):∃a vs,x=.ref a∧H a=some (.lst vs)∧au K T F m ps vs:=by
 cases r with
 |lst ef rr=>simp only[Wk,Option.some.injEq]at e;subst e;exact⟨_,_,rfl,R.same _ _ ef,rr⟩
 |@ref i a em=>
  have e:(match h[i]? with|some (.lst xs)=>some xs|_=>none)=some ps:=e
  cases q:h[i]? with
  |none=>rw[q]at e;cases e
  |some o=>
   rw[q]at e
   cases o with
   |lst xs=>simp only[Option.some.injEq]at e;subst e;obtain⟨_,vs,e1,rr⟩:=R.obj i _ a q em;exact⟨a,vs,rfl,e1,rr⟩
   |dct _=>cases e
   |G7 _=>cases e
   |obj _ _=>cases e
 |_=>simp[Wk]at e
theorem fP(R:RelH K T F m h H)(r:aF K T F m p x)(e:Vh h p=some ps):∃a vs,x=.ref a∧O4 K H a vs∧au K T F m ps vs:=by
 by_cases hg:∃xs,p= .Q8 xs
 ·obtain⟨xs,rfl⟩:=hg;simp only[Vh,Option.some.injEq]at e;subst e
  cases r with
  |Q8 ef rr=>exact⟨_,_,rfl,R.same.seq ef,rr⟩
 ·have e':Wk h p=some ps:=by
   unfold Vh at e
   split at e
   ·exact absurd ⟨_,rfl⟩ hg
   ·exact e
  obtain⟨a,vs,e1,e2,rr⟩:=nC R r e';exact⟨a,vs,e1,O4.of e2,rr⟩
theorem eZ(R:RelH K T F m h H)(r:aF K T F m (.tup ps) x):∃a vs,x=.ref a∧PN K H a vs∧au K T F m ps vs:=by
 cases r with
 |tup ef rr=>exact⟨_,_,rfl,R.same.QB ef,rr⟩
theorem mV(R:RelH K T F m h H)(r:aF K T F m p x)(e:WR h p=some ps):∃a vs,x=.ref a∧(O4 K H a vs∨PN K H a vs)∧au K T F m ps vs:=by
 by_cases hg:∃xs,p=.tup xs
 ·obtain⟨xs,rfl⟩:=hg;simp only[WR,Option.some.injEq]at e;subst e;obtain⟨a,vs,e1,e2,rr⟩:=eZ R r;exact⟨a,vs,e1,.inr e2,rr⟩
 ·have e':Vh h p=some ps:=by
   unfold WR at e
   split at e
   ·exact absurd ⟨_,rfl⟩ hg
   ·exact e
  obtain⟨a,vs,e1,e2,rr⟩:=fP R r e';exact⟨a,vs,e1,.inl e2,rr⟩
theorem jO{kps:List (PK×PV)}(R:RelH K T F m h H)(r:aF K T F m p x)(e:W2 h p=some kps):∃a kvs,x=.ref a∧Rd H a (.dK kvs)∧kvs.map (·.1)=kps.map (fun p=>tk p.1)∧au K T F m (kps.map (·.2)) (kvs.map (·.2)):=by
 cases r with
 |dct ef k rr=>simp only[W2,Option.some.injEq]at e;subst e;exact⟨_,_,rfl,.inr ⟨_,R.same _ _ ef⟩,k,rr⟩
 |@ref i a em=>
  have e:(match h[i]? with|some (.dct xs)=>some xs|_=>none)=some kps:=e
  cases q:h[i]? with
  |none=>rw[q]at e;cases e
  |some o=>
   rw[q]at e
   cases o with
   |dct xs=>simp only[Option.some.injEq]at e;subst e;obtain⟨_,vs,e1,k,rr⟩:=R.obj i _ a q em;exact⟨a,vs,rfl,.inl e1,k,rr⟩
   |lst _=>cases e
   |G7 _=>cases e
   |obj _ _=>cases e
 |_=>simp[W2]at e
theorem au.at{ps:List PV}{vs:List V}{i:Int}{p:PV}(r:au K T F m ps vs)(e:QW ps i=some p):∃v,QW vs i=some v∧aF K T F m p v:=by
 unfold QW at e ⊢;rw[← r.length]
 cases q:Wn ps.length i with
 |none=>rw[q]at e;cases e
 |some j=>rw[q]at e;simp only[Option.bind_some]at e ⊢;exact r.get e
end
theorem Pa.or{X:Cx}{f:Value→Value→Sem Value}{r r':R2}(h:Pa X f r)(h':Pa X f r'):Pa X f (fun x y H Q=>r x y H Q∨r' x y H Q):=by
 intro pins s σ H x y v u Q I rx ry q;rcases q with q|q
 ·exact h pins s σ H x y v u Q I rx ry q
 ·exact h' pins s σ H x y v u Q I rx ry q
theorem dD.or{X:Cx}{f:Value}{r r':List V→Hp→VK→Prop}(h:dD X f r)(h':dD X f r'):dD X f (fun x H Q=>r x H Q∨r' x H Q):=by
 intro pins s σ H x v Q I rx q;rcases q with q|q
 ·exact h pins s σ H x v Q I rx q
 ·exact h' pins s σ H x v Q I rx q
section
variable{K:W.Frag}{T:Tab}{F H:Hp}{m:List Addr}{h:List PO}{Q:VK}{Ew:XK}
theorem aN{p:PV}{x:V}(w:aB K T (aF K T) F m H Q Ew (.ok p h))(R:RelH K T F m h H)(r:aF K T F m p x):Q x H:=w F m H x .refl R r
theorem fB{ps:List PV}{vs:List V}(w:aB K T (aF K T) F m H Q Ew (.ok (.lst ps) h))(R:RelH K T F m h H)(r:au K T F m ps vs):∀p,H p=none→Q (.ref p) (upd H p (.lst vs)):=fun p hp=>by obtain⟨s,R'⟩:=aP.lay (o:=.lst vs) R hp;exact w _ m _ _ s R' (.lst aA (s.reps r))
theorem kU{ps:List PV}{vs:List V}(w:aB K T (aF K T) F m H Q Ew (.ok (.tup ps) h))(R:RelH K T F m h H)(r:au K T F m ps vs):∀p,H p=none→Q (.ref p) (upd H p (.tup vs)):=fun p hp=>by obtain⟨s,R'⟩:=aP.lay (o:=.tup vs) R hp;exact w _ m _ _ s R' (.tup (PN.of aA) (s.reps r))
theorem tU{ps:List PV}{vs:List V}(w:aB K T (aF K T) F m H Q Ew (.ok (.ref h.length) (h++ [.lst ps])))(R:RelH K T F m h H)(r:au K T F m ps vs):∀p,H p=none→Q (.ref p) (upd H p (.lst vs)):=fun p hp=>by
 have hF:F p=none:=R.same.free hp
 have hm:p∉m:=fun z=>by
  obtain⟨i,e⟩:=List.mem_iff_getElem?.mp z
  have hi:i<h.length:=by
   rw[R.len];rcases Nat.lt_or_ge i m.length with q|q
   ·exact q
   ·rw[List.getElem?_eq_none q]at e;cases e
  have e2:h[i]? =some h[i]:=List.getElem?_eq_getElem hi;have q:=R.obj i _ p e2 e
  cases ho:h[i]with
  |lst xs=>rw[ho]at q;obtain⟨_,vs,z,_⟩:=q;rw[hp]at z;cases z
  |dct xs=>rw[ho]at q;obtain⟨_,vs,z,_⟩:=q;rw[hp]at z;cases z
  |G7 xs=>rw[ho]at q;obtain⟨_,_,o,z⟩:=q;rw[hF]at z;cases z
  |obj C fs=>rw[ho]at q;obtain⟨_,_,⟨_,_,_,z,_⟩,_⟩:=q;rw[hp]at z;cases z
 have st:aP F m H F (m++ [p]) (upd H p (.lst vs)):=by
  refine⟨cA.refl _,⟨[p],rfl⟩,fun b o e _=>by rw[aj (ar e hp)];exact e,fun b o e=>⟨o,by rw[aj (ar e hp)];exact e⟩,fun i a hi e=>?_,fun a o e=>.inl e⟩;rw[List.getElem?_append_right hi]at e
  have:a=p:=by
   cases q:i - m.length with
   |zero=>rw[q]at e;simpa using e.symm
   |succ k=>rw[q]at e;simp at e
  rw[this];exact hp
 refine w F (m++ [p]) _ _ st ⟨fun b o e=>by rw[aj (ar (R.same b o e) hp)];exact R.same b o e,by simp[R.len],fun i o a e1 e2=>?_,?_⟩ (.ref (by rw[R.len];simp))
 ·rcases Nat.lt_or_ge i h.length with hi|hi
  ·rw[List.getElem?_append_left hi]at e1;rw[List.getElem?_append_left (by rw[← R.len];exact hi)]at e2;have q:=R.obj i o a e1 e2
   cases o with
   |lst xs=>obtain⟨f,ws,z,rr⟩:=q;exact⟨f,ws,by rw[aj (ar z hp)];exact z,st.reps rr⟩
   |dct xs=>obtain⟨f,ws,z,k,rr⟩:=q;exact⟨f,ws,by rw[aj (ar z hp)];exact z,k,st.reps rr⟩
   |G7 q'=>obtain⟨r1,r2,r3⟩:=q;exact⟨st.rep r1,r2,r3⟩
   |obj C fs=>obtain⟨f,ws,⟨Ca,dx,c,z,d⟩,k,rr⟩:=q;exact⟨f,ws,⟨Ca,dx,c,by rw[aj (ar z hp)];exact z,d⟩,k,st.reps rr⟩
  ·have Uy:i=h.length:=by
    rcases Nat.lt_or_ge i (h.length+1)with z|z
    ·omega
    ·rw[List.getElem?_eq_none (by simp;omega)]at e1;cases e1
   subst Uy;have e1':o=.lst ps:=by simpa using e1.symm
   subst e1';have e2':a=p:=by rw[R.len]at e2;simpa using e2.symm
   subst e2';exact⟨hF,vs,aA,st.reps r⟩
 ·refine List.nodup_append.mpr ⟨R.nd,by simp,fun a ha b hb=>?_⟩;have:b=p:=by simpa using hb
  subst this
  rintro rfl
  exact hm ha
end
def AS(p q:PV)(h:List PO):Res PV:=match p,q with
 |.int i,.int j=>.ok (.int (i+j)) h
 |.int i,.bl b=>.ok (.int (i+b2i b)) h
 |.str a,.str b=>if a.length+b.length≤sizeLine then .ok (.str (a++b)) h else .bad
 |.tup a,.tup b=>if a.isEmpty=false∧a.length+b.length≤sizeLine then .ok (.tup (a++b)) h else .bad
 |p,q=>match Wk h p,Wk h q with
  |some a,some b=>if a.length+b.length≤sizeLine then .ok (.lst (a++b)) h else .bad
  |_,_=>.bad
def Ah(K:W.Frag):R2:=fun x y H Q=>(WW fun i j=>V.int (i+j)) x y H Q∨(∃i k,x=.int i∧y=.bl k∧Q (.int (i+b2i k)) H)∨
 (∃i j,x=.str i∧y=.str j∧i.length+j.length≤sizeLine∧Q (.str (i++j)) H)∨FZ K x y H Q∨KI x y H Q
theorem DU{X:Cx}:Pa X (binaryOp .Add) (Ah X.K):=Pa.or HM (Pa.or yx (Pa.or vI (Pa.or DS HL)))
theorem oQ(a b:List Nat):S a++S b=S (a++b):=by show(⟨(S a).cps++(S b).cps⟩:Str)=_;simp[S]
theorem Av{K:W.Frag}{T:Tab}:dN K T (Ah K) AS:=by
 intro F m h H x y p q Q Ew R rp rq w;unfold AS at w
 split at w
 ·cases rp;cases rq;exact .inl ⟨_,_,rfl,rfl,aN w R (.int _)⟩
 ·cases rp;cases rq;exact .inr (.inl ⟨_,_,rfl,rfl,aN w R (.int _)⟩)
 ·rename_i a b
  cases rp;cases rq
  split at w
  ·rename_i hz;exact .inr (.inr (.inl ⟨_,_,rfl,rfl,by rw[fH,fH];exact hz,by rw[oQ];exact aN w R (.str _)⟩))
  ·exact w.elim
 ·rename_i a b
  split at w
  ·rename_i hz;obtain⟨pa,va,rfl,ea,ra⟩:=eZ R rp;obtain⟨pb,vb,rfl,eb,rb⟩:=eZ R rq;refine .inr (.inr (.inr (.inl ⟨pa,pb,va,vb,rfl,rfl,ea,eb,fun z=>?_,by rw[← ra.length,← rb.length];exact hz.2,fun z=>?_,fun _=>kU w R (ra.append rb)⟩)))
   ·subst z;have:=ra.length
    cases a with
    |nil=>simp at hz
    |cons _ _=>simp at this
   ·subst z;have:=rb.length
    cases b with
    |nil=>rw[List.append_nil]at w;exact aN w R rp
    |cons _ _=>simp at this
  ·exact w.elim
 ·split at w
  ·rename_i a b e1 e2
   split at w
   ·rename_i hz;obtain⟨pa,va,rfl,ea,ra⟩:=nC R rp e1;obtain⟨pb,vb,rfl,eb,rb⟩:=nC R rq e2;exact .inr (.inr (.inr (.inr ⟨pa,pb,va,vb,rfl,rfl,ea,eb,by rw[← ra.length,← rb.length];exact hz,fB w R (ra.append rb)⟩)))
   ·exact w.elim
  ·exact w.elim
noncomputable def pI(C:Int→Int→Bool)(g:Int→Int→Int)(p q:PV)(h:List PO):Res PV:=match p,q with
 |.int i,.int j=>if C i j=true then .ok (.int (g i j)) h else .bad
 |_,_=>.bad
theorem vC{K:W.Frag}{T:Tab}{C:Int→Int→Bool}{C':Int→Int→Prop}{g:Int→Int→Int}(hC:∀i j,C i j=true→C' i j):dN K T (rI C' fun i j=>.int (g i j)) (pI C g):=by
 intro F m h H x y p q Q Ew R rp rq w;unfold pI at w
 split at w
 ·cases rp;cases rq
  split at w
  ·rename_i hc;exact⟨_,_,rfl,rfl,hC _ _ hc,aN w R (.int _)⟩
  ·exact w.elim
 ·exact w.elim
noncomputable def tY(p q:PV)(h:List PO):Res PV:=match p,q with
 |.int i,.int j=>.ok (.int (i - j)) h
 |_,_=>.bad
theorem Aq{K:W.Frag}{T:Tab}:dN K T (WW fun i j=>.int (i - j)) tY:=by
 intro F m h H x y p q Q Ew R rp rq w;unfold tY at w
 split at w
 ·cases rp;cases rq;exact⟨_,_,rfl,rfl,aN w R (.int _)⟩
 ·exact w.elim
abbrev gA:=pI (fun _ j=>decide (0<j)) (fun i j=>i % j)
abbrev kW:=pI (fun _ j=>decide (0<j∧j<1073741824)) (fun i j=>i / j)
abbrev KR:=pI (fun i j=>decide (0≤j∧j≤1000000∧i.natAbs<2 ^ 64)) (fun i j=>i ^ j.toNat)
noncomputable def Ua(n:Nat)(i:Int):Bool:=Nat.blt i.natAbs n
theorem fj{n:Nat}{i:Int}:Ua n i=true↔ -(n:Int)<i∧i<(n:Int):=by unfold Ua;rw[Nat.blt_eq];omega
noncomputable def MB(i j:Int):Bool:=decide (Builtin.Int.intBits i+Builtin.Int.intBits j≤134217728)
def jU(i j:Int):Bool:=Ua 18446744073709551616 i||(Ua 18446744073709551616 j||MB i j)
noncomputable def rE{α:Type}(xs:List α)(k:Int):List α:=(List.replicate k.toNat xs).flatten
def iH(p q:PV)(h:List PO):Res PV:=match p,q with
 |.int i,.int j=>if jU i j=true then .ok (.int (i * j)) h else .bad
 |.str a,.int k=>if Ua 1048576 k=true∧a.length * k.toNat≤1048576 then .ok (.str (rE a k)) h else .bad
 |p,.int k=>match Wk h p with
  |some xs=>if Ua 9223372036854775808 k=true∧xs.length * k.toNat≤sizeLine then .ok (.lst (rE xs k)) h else .bad
  |_=>.bad
 |_,_=>.bad
theorem DP{X:Cx}:Pa X (binaryOp .Mult) (rI IntMulOk fun i j=>.int (i * j)):=opI fun _ _ _ _ _ _ _ hc q=>mul_int q hc
def FX:R2:=fun x y H Q=>rI IntMulOk (fun i j=>.int (i * j)) x y H Q∨FW x y H Q∨KC x y H Q
theorem DQ{X:Cx}:Pa X (binaryOp .Mult) FX:=Pa.or DP (Pa.or vG HG)
theorem qE(l:List Nat):∀(k:Nat)(acc:List Nat),(List.replicate k l.toArray).foldl (· ++ ·) acc.toArray=(acc++(List.replicate k l).flatten).toArray
 |0,acc=>by simp
 |k+1,acc=>by
  rw[List.replicate_succ,List.foldl_cons,List.replicate_succ,List.flatten_cons,← List.append_assoc,← qE l k (acc++l)]
  congr 1
  simp
theorem Me(a:List Nat)(k:Int):Txt.mul (S a) k=S (rE a k):=by
 unfold Txt.mul rE
 by_cases h1:k<1
 ·rw[if_pos h1];have:k.toNat=0:=by omega
  rw[this];rfl
 ·rw[if_neg h1]
  by_cases h2:k=1
  ·subst h2;simp
  ·by_cases h3:(S a).length=0
   ·rw[if_pos (by simp[h3])];have:a= []:=by rw[fH]at h3;exact List.length_eq_zero_iff.mp h3
    subst this
    have e:∀n:Nat,(List.replicate n ([]:List Nat)).flatten= []:=fun n=>by induction n with
     |zero=>rfl
     |succ n ih=>rw[List.replicate_succ,List.flatten_cons,ih];rfl
    rw[e]
   ·rw[if_neg (by simp[h2,h3])];have:=qE a k.toNat [];rw[List.nil_append]at this;show(⟨_⟩:Str)=⟨_⟩
    congr 1
theorem As{K:W.Frag}{T:Tab}:dN K T FX iH:=by
 intro F m h H x y p q Q Ew R rp rq w;unfold iH at w
 split at w
 ·cases rp;cases rq
  split at w
  ·rename_i hc
   exact .inl ⟨_,_,rfl,rfl,(by
    unfold jU at hc;rw[Bool.or_eq_true,Bool.or_eq_true,fj,fj]at hc;rcases hc with c|c|c
    ·exact FF.ok (.inl c)
    ·exact FF.ok (.inr c)
    ·exact IntMulOk.of_le (abl _) (abl _) (of_decide_eq_true c)),aN w R (.int _)⟩
  ·exact w.elim
 ·rename_i a k
  cases rp;cases rq
  split at w
  ·rename_i hc;obtain⟨ZW,h3⟩:=hc;obtain⟨h1,h2⟩:=fj.mp ZW;refine .inr (.inl ⟨_,_,rfl,rfl,⟨?_,fun g1 g2=>?_,fun g1 g2=>?_⟩,by rw[Me];exact aN w R (.str _)⟩)
   ·simp;omega
   ·have hl:((S a).length:Int)≤2 ^ 20:=by rw[fH];have:a.length * 1≤a.length * k.toNat:=Nat.mul_le_mul_left _ (by omega);omega
    have:(2:Int) ^ 20≤(2 ^ 63 - 1) / k:=by rw[Int.le_ediv_iff_mul_le (by omega)];have:(2:Int) ^ 20 * k≤2 ^ 20 * 2 ^ 20:=Int.mul_le_mul_of_nonneg_left (by omega) (by decide);omega
    omega
   ·rw[fH];unfold Builtin.Str.tooLong;simp;have:(2:Nat) ^ 20≤sizeLine:=by decide
    omega
  ·exact w.elim
 ·rename_i k hs hi
  cases rq
  split at w
  ·rename_i xs e
   split at w
   ·rename_i hc;obtain⟨ZW,h3⟩:=hc;obtain⟨Vy,VN⟩:=fj.mp ZW;have h1: -(2 ^ 63)≤k:=by omega
    have h2:k<2 ^ 63:=by omega
    obtain⟨a,vs,rfl,ea,ra⟩:=nC R rp e
    have rr:∀n:Nat,au K T F m (List.replicate n xs).flatten (List.replicate n vs).flatten:=fun n=>by
     induction n with
     |zero=>exact .nil
     |succ n ih=>rw[List.replicate_succ,List.replicate_succ,List.flatten_cons,List.flatten_cons];exact ra.append ih
    exact .inr (.inr ⟨a,k,vs,rfl,rfl,ea,h1,h2,by rw[← ra.length];exact h3,fB w R (rr _)⟩)
   ·exact w.elim
  ·exact w.elim
 ·exact w.elim
section
variable{X:Cx}{T:Tab}{Ew:XK}{a b:Expr}{fa fb:Ex}{pos:Pos}
theorem rF(ha:RE X T Ew a fa)(hb:RE X T Ew b fb):RE X T Ew (.BinOp a .Sub b pos) (c2 tY fa fb):=by with_unfolding_all exact(
  pZ HF Aq ha hb)
theorem gg(ha:RE X T Ew a fa)(hb:RE X T Ew b fb):RE X T Ew (.BinOp a .Mult b pos) (c2 iH fa fb):=by with_unfolding_all exact(
  pZ DQ As ha hb)
theorem cz(ha:RE X T Ew a fa)(hb:RE X T Ew b fb):RE X T Ew (.BinOp a .Mod b pos) (c2 gA fa fb):=by with_unfolding_all exact(
  pZ HI (vC fun i j h=>of_decide_eq_true h) ha hb)
theorem dq(ha:RE X T Ew a fa)(hb:RE X T Ew b fb):RE X T Ew (.BinOp a .FloorDiv b pos) (c2 kW fa fb):=by with_unfolding_all exact(
  pZ DR (vC fun i j h=>(by have z:=of_decide_eq_true h;exact z)) ha hb)
theorem Ha(ha:RE X T Ew a fa)(hb:RE X T Ew b fb):RE X T Ew (.BinOp a .Pow b pos) (c2 KR fa fb):=by with_unfolding_all exact(
  pZ HH (vC fun i j h=>(by have z:=of_decide_eq_true h;exact z)) ha hb)
noncomputable def oZ(p:PV)(h:List PO):Res PV:=match p with
 |.int i=>.ok (.int (-i)) h
 |_=>.bad
theorem nY(ha:RE X T Ew a fa):RE X T Ew (.UnaryOp .USub a pos) (c1 oZ fa):=by with_unfolding_all exact(
  Ks GB (by
 intro F m h H x p Q Ew R rp w;unfold oZ at w
 split at w
 ·cases rp;exact⟨_,rfl,aN w R (.int _)⟩
 ·exact w.elim) ha)
end
mutual
inductive U0(K:W.Frag)(H:Hp):V→PyData→Prop where
 |non:U0 K H .non .none
 |bl (b:Bool):U0 K H (.bl b) (.bool b)
 |int (i:Int):U0 K H (.int i) (.int i)
 |str (x:Str):U0 K H (.str x) (.str x)
 |lst {a:Addr} {vs:List V} {ds:List PyData} (e:O4 K H a vs) (r:mq K H vs ds):U0 K H (.ref a) (.list ds)
 |tup {a:Addr} {vs:List V} {ds:List PyData} (e:PN K H a vs) (r:mq K H vs ds):U0 K H (.ref a) (.tuple ds)
inductive mq(K:W.Frag)(H:Hp):List V→List PyData→Prop where
 |nil:mq K H [] []
 |cons {v:V} {d:PyData} {vs:List V} {ds:List PyData} (r:U0 K H v d) (t:mq K H vs ds):mq K H (v::vs) (d::ds)
end
section
variable{X:Cx}{pins:List (Addr×Obj)}{σ:St}{H:Hp}{s:Shared}
mutual
theorem U0.reads(I:Inv X pins σ H s):∀{x:V}{d:PyData}{u:Value},U0 X.K H x d→aQ x u→∃as,Reads s.heap u d as
 |_,_,_,.non,r=>by cases r;exact⟨_,.none⟩
 |_,_,_,.bl b,r=>by cases r;exact⟨_,.bool b⟩
 |_,_,_,.int i,r=>by obtain⟨t,rfl⟩:=r;exact⟨_,.int i t⟩
 |_,_,_,.str x,r=>by obtain⟨t,rfl⟩:=r;exact⟨_,.str x t⟩
 |_,_,_,.lst e rr,r=>by
  cases r
  obtain⟨its,rv,⟨o,n,h1,h2,h3,h4⟩,_⟩:=I.list e;obtain⟨as,ra⟩:=mq.reads I rr rv;exact⟨_,.list h1 h2 h4 (by simpa using ra)⟩
 |_,_,_,.tup e rr,r=>by
  cases r
  obtain⟨its,rv,⟨o,h1,h2,n,h4⟩,_⟩:=I.tuple e;obtain⟨as,ra⟩:=mq.reads I rr rv;exact⟨_,.tuple h1 h2 h4 (by simpa using ra)⟩
theorem mq.reads(I:Inv X pins σ H s):∀{xs:List V}{ds:List PyData}{us:List Value},mq X.K H xs ds→aL xs us→∃as,ReadsAll s.heap us ds as
 |_,_,_,.nil,r=>by cases r;exact⟨_,.nil⟩
 |_,_,_,.cons q t,r=>by
  cases r with
  |cons r1 r2=>obtain⟨as,ra⟩:=U0.reads I q r1;obtain⟨bs,rb⟩:=mq.reads I t r2;exact⟨_,.cons ra rb⟩
end
end
mutual
def toD:PV→PyData
 |.non=>.none
 |.bl b=>.bool b
 |.int i=>.int i
 |.str l=>.str (S l)
 |.tup xs=>.tuple (gS xs)
 |.lst xs=>.list (gS xs)
 |.Q8 xs=>.list (gS xs)
 |_=>.dict []
def gS:List PV→List PyData
 |[]=>[]
 |x::r=>toD x::gS r
end
theorem nN:∀l:List PV,gS l=l.map toD
 |[]=>by simp[gS]
 |x::r=>by simp[gS,nN r]
def Tc(h:List PO):PV→PyData
 |.ref i=>match h[i]? with
  |some (.lst xs)=>.list (gS xs)
  |_=>.dict []
 |p=>toD p
section
variable{K:W.Frag}{T:Tab}{F H:Hp}{m:List Addr}
mutual
theorem aF.rd(sm:cA F H):∀{p:PV}{x:V},aF K T F m p x→(toD p).canLay0=true→U0 K H x (toD p)
 |_,_,.non,_=>by simp only[toD];exact .non
 |_,_,.bl b,_=>by simp only[toD];exact .bl b
 |_,_,.int i,_=>by simp only[toD];exact .int i
 |_,_,.str x,_=>by simp only[toD];exact .str _
 |_,_,.ty n,h=>by simp[toD,PyData.canLay0]at h
 |_,_,.cls c,h=>by simp[toD,PyData.canLay0]at h
 |_,_,.tup e r,h=>by simp only[toD]at h ⊢;exact .tup (sm.QB e) (au.rd sm r (by simpa[PyData.canLay0]using h))
 |_,_,.lst e r,h=>by simp only[toD]at h ⊢;exact .lst (O4.of (sm _ _ e)) (au.rd sm r (by simpa[PyData.canLay0]using h))
 |_,_,.Q8 e r,h=>by simp only[toD]at h ⊢;exact .lst (sm.seq e) (au.rd sm r (by simpa[PyData.canLay0]using h))
 |_,_,.dct e k r,h=>by simp[toD,PyData.canLay0]at h
 |_,_,.ins c e d k r,h=>by simp[toD,PyData.canLay0]at h
 |_,_,.ref e,h=>by simp[toD,PyData.canLay0]at h
theorem au.rd(sm:cA F H):∀{p:List PV}{x:List V},au K T F m p x→PyData.canLayAll0 (gS p)=true→mq K H x (gS p)
 |_,_,.nil,_=>by simp only[gS];exact .nil
 |_,_,.cons r t,h=>by simp only[gS,PyData.canLayAll0,abk]at h ⊢;exact .cons (aF.rd sm r h.1) (au.rd sm t h.2)
end
theorem aF.rdH{h:List PO}(R:RelH K T F m h H){p:PV}{x:V}(r:aF K T F m p x)(c:(Tc h p).canLay0=true):U0 K H x (Tc h p):=by
 by_cases hr:∃i,p=.ref i
 ·obtain⟨i,rfl⟩:=hr
  cases r with
  |@ref _ a e=>
   have c':(match h[i]? with|some (.lst xs)=>PyData.list (gS xs)|_=>.dict []).canLay0=true:=c;show U0 K H (.ref a) (match h[i]? with|some (.lst xs)=>PyData.list (gS xs)|_=>.dict [])
   cases q:h[i]? with
   |none=>rw[q]at c';simp[PyData.canLay0]at c'
   |some o=>
    rw[q]at c'
    cases o with
    |lst xs=>obtain⟨_,vs,e1,rr⟩:=R.obj i _ a q e;exact .lst (O4.of e1) (au.rd R.same rr (by simpa[PyData.canLay0]using c'))
    |dct _=>simp[PyData.canLay0]at c'
    |G7 _=>simp[PyData.canLay0]at c'
    |obj _ _=>simp[PyData.canLay0]at c'
 ·have e:Tc h p=toD p:=by
   unfold Tc
   split
   ·exact absurd ⟨_,rfl⟩ hr
   ·rfl
  rw[e]at c ⊢;exact aF.rd R.same r c
end
def Oq(h:List PO)(p:PV):Bool:=(Tc h p).canLay0&&decide ((Tc h p).depth≤60)
def Pb(p q:PV)(h:List PO):Res PV:=if Oq h p=true∧Oq h q=true then .ok (.bl (PyData.eqv (Tc h p) (Tc h q))) h else .bad
def Ti(p q:PV)(h:List PO):Res PV:=if Oq h p=true∧Oq h q=true then .ok (.bl (!PyData.eqv (Tc h p) (Tc h q))) h else .bad
noncomputable def Ag(K:W.Frag)(neg:Bool):R2:=fun x y H Q=>∃d e,U0 K H x d∧U0 K H y e∧d.canLay0=true∧e.canLay0=true∧d.depth≤60∧Q (.bl (if neg then !PyData.eqv d e else PyData.eqv d e)) H
section
variable{X:Cx}{T:Tab}{Ew:XK}{a b:Expr}{fa fb:Ex}{pos:Pos}
theorem vH(hu:X.A.units+64<cLine):Pa X (compareOp .Eq) (Ag X.K false):=by intro pins s σ H x y v u Q I rx ry h;obtain⟨d,e,h1,h2,c1,c2,dp,q⟩:=h;obtain⟨as,ra⟩:=h1.reads I rx;obtain⟨bs,rb⟩:=h2.reads I ry;exact SeqAt.compareEq_reads ra rb c1 c2 (by have:=Nat.min_le_left d.depth e.depth;omega) ⟨.bl _,H,I,rfl,q⟩
theorem jk(hu:X.A.units+64<cLine):Pa X (compareOp .NotEq) (Ag X.K true):=by intro pins s σ H x y v u Q I rx ry h;obtain⟨d,e,h1,h2,c1,c2,dp,q⟩:=h;obtain⟨as,ra⟩:=h1.reads I rx;obtain⟨bs,rb⟩:=h2.reads I ry;exact SeqAt.compareNe_reads ra rb c1 c2 (by have:=Nat.min_le_left d.depth e.depth;omega) ⟨.bl _,H,I,rfl,q⟩
theorem rO{K:W.Frag}{T:Tab}:dN K T (Ag K false) Pb:=by
 intro F m h H x y p q Q Ew R rp rq w;unfold Pb at w
 split at w
 ·rename_i hc;unfold Oq at hc;simp only[abk,decide_eq_true_eq]at hc;exact⟨_,_,rp.rdH R hc.1.1,rq.rdH R hc.2.1,hc.1.1,hc.2.1,hc.1.2,aN w R (.bl _)⟩
 ·exact w.elim
theorem gJ{K:W.Frag}{T:Tab}:dN K T (Ag K true) Ti:=by
 intro F m h H x y p q Q Ew R rp rq w;unfold Ti at w
 split at w
 ·rename_i hc;unfold Oq at hc;simp only[abk,decide_eq_true_eq]at hc;exact⟨_,_,rp.rdH R hc.1.1,rq.rdH R hc.2.1,hc.1.1,hc.2.1,hc.1.2,aN w R (.bl _)⟩
 ·exact w.elim
noncomputable def yw(g:Int→Int→Bool)(p q:PV)(h:List PO):Res PV:=match p,q with
 |.int i,.int j=>.ok (.bl (g i j)) h
 |_,_=>.bad
theorem cw{K:W.Frag}{T:Tab}{g:Int→Int→Bool}:dN K T (WW fun i j=>.bl (g i j)) (yw g):=by
 intro F m h H x y p q Q Ew R rp rq w;unfold yw at w
 split at w
 ·cases rp;cases rq;exact⟨_,_,rfl,rfl,aN w R (.bl _)⟩
 ·exact w.elim
abbrev pLt:=yw fun i j=>decide (i<j)
abbrev pLe:=yw fun i j=>decide (i≤j)
abbrev VH:=yw fun i j=>decide (j<i)
noncomputable def oB:PV→Bool
 |.non=>true
 |_=>false
theorem yT{K:W.Frag}{T:Tab}{F:Hp}{m:List Addr}{p:PV}{x:V}(r:aF K T F m p x):decide (x=.non)=oB p:=by cases r<;>simp[oB]
def pIs(p q:PV)(h:List PO):Res PV:=match q with
 |.non=>.ok (.bl (oB p)) h
 |_=>.bad
end
noncomputable def et(y x:List Nat)(lo:Nat):Option Nat:=(List.range (x.length+1)).find? fun i=>decide (lo≤i)&&y.isPrefixOf (x.drop i)
theorem pU(x y:List Nat)(i:Nat)(hi:i+y.length≤x.length):Builtin.Str.subAt (S x) (S y) i=y.isPrefixOf (x.drop i):=by
 unfold Builtin.Str.subAt;rw[fH];rw[Bool.eq_iff_iff,beq_iff_eq,List.isPrefixOf_iff_prefix]
 have e:(S x).cps.extract i (i+y.length)=((x.drop i).take y.length).toArray:=by apply Array.toList_inj.mp;simp[S,List.extract_eq_drop_take]
 rw[e];show((x.drop i).take y.length).toArray=(S y).cps↔_;constructor
 ·intro h;have h':(x.drop i).take y.length=y:=by simpa[S]using congrArg Array.toList h
  refine⟨(x.drop i).drop y.length,?_⟩;have q:=List.take_append_drop y.length (x.drop i);rw[h']at q;exact q
 ·rintro⟨t,ht⟩
  rw[← ht,List.take_left];rfl
theorem wv(x y:List Nat)(i:Nat):StrLaws.At (S x) (S y) (S x).length i↔i≤x.length∧y.isPrefixOf (x.drop i)=true:=by
 unfold StrLaws.At;rw[fH,fH];constructor
 ·rintro⟨h1,h2⟩
  rw[pU x y i h1]at h2;exact⟨by omega,h2⟩
 ·rintro⟨h1,h2⟩
  have:i+y.length≤x.length:=by have:=(List.isPrefixOf_iff_prefix.mp h2).length_le;rw[List.length_drop]at this;omega
  exact⟨this,by rw[pU x y i this];exact h2⟩
theorem vK(x y:List Nat)(lo:Nat):Builtin.Str.occurrences (S x) (S y) lo (S x).length 1=(et y x lo).toList:=by
 have K3:=StrLaws.occ_length_le (S x) (S y) lo (S x).length 1;rcases StrLaws.occ_head_from (S x) (S y) lo 1 (abl _)with⟨h0,hn⟩|⟨i,r,h0,hl,ha,hn⟩
 ·rw[h0]
  have:et y x lo=none:=by unfold et;rw[List.find?_eq_none];intro i hi hc;simp only[abk,decide_eq_true_eq]at hc;exact hn i hc.1 ((wv x y i).mpr ⟨by have:=List.mem_range.mp hi;omega,hc.2⟩)
  rw[this];rfl
 ·rw[h0]at K3 ⊢
  have hr:r= []:=by cases r with
   |nil=>rfl
   |cons _ _=>simp at K3
  subst hr;obtain⟨a1,a2⟩:=(wv x y i).mp ha
  have:et y x lo=some i:=by
   unfold et;rw[List.find?_range_eq_some];refine⟨by simp[hl,a2],by simp;omega,fun j hj=>?_⟩;simp only[Bool.not_eq_true',Bool.and_eq_false_iff,decide_eq_false_iff_not];rcases Nat.lt_or_ge j lo with q|q
   ·exact .inl (by omega)
   ·right
    cases z:y.isPrefixOf (x.drop j)with
    |false=>rfl
    |true=>exact absurd ((wv x y j).mpr ⟨by omega,z⟩) (hn j q hj)
  rw[this];rfl
def qA(y x:List Nat):Bool:=(et y x 0).isSome
theorem NW(x y:List Nat):(!(Builtin.Str.occurrences (S x) (S y) 0 (S x).length 1).isEmpty)=qA y x:=by
 rw[vK];unfold qA
 cases et y x 0<;>rfl
theorem qz(c:Nat)(x:List Nat):qA [c] x=x.contains c:=by
 unfold qA et;rw[Bool.eq_iff_iff,List.find?_isSome];simp only[List.mem_range,abk,decide_eq_true_eq,Nat.zero_le,true_and,List.contains_iff_mem];constructor
 ·rintro⟨i,hi,hp⟩
  obtain⟨t,ht⟩:=List.isPrefixOf_iff_prefix.mp hp;have:c∈x.drop i:=by rw[← ht];simp
  exact List.mem_of_mem_drop this
 ·intro h;obtain⟨i,hi⟩:=List.mem_iff_getElem?.mp h
  have U7:i<x.length:=by
   rcases Nat.lt_or_ge i x.length with q|q
   ·exact q
   ·rw[List.getElem?_eq_none q]at hi;cases hi
  refine⟨i,by omega,List.isPrefixOf_iff_prefix.mpr ⟨x.drop (i+1),?_⟩⟩;rw[List.getElem?_eq_getElem U7,Option.some.injEq]at hi;rw[← hi,List.singleton_append,← List.drop_eq_getElem_cons U7]
noncomputable def kZ:PV→Option PK
 |.int i=>some (.inl i)
 |.str l=>some (.inr l)
 |_=>none
noncomputable def bj(kvs:List (PK×PV))(k:PK):Option PV:=(kvs.find? fun kv=>decide (kv.1=k)).map (·.2)
theorem jK{K:W.Frag}{T:Tab}{F:Hp}{m:List Addr}{p:PV}{x:V}{k:PK}(r:aF K T F m p x)(e:kZ p=some k):x=kV (tk k):=by cases r<;>simp[kZ]at e<;>subst e<;>rfl
theorem nL{K:W.Frag}{T:Tab}{F:Hp}{m:List Addr}:∀{kps:List (PK×PV)}{kvs:List (Key×V)},kvs.map (·.1)=kps.map (fun p=>tk p.1)→au K T F m (kps.map (·.2)) (kvs.map (·.2))→∀k:PK,
  (∃p v,bj kps k=some p∧lJ kvs (tk k)=some v∧aF K T F m p v)∨(bj kps k=none∧lJ kvs (tk k)=none)
 |[],[],_,_,k=>.inr ⟨rfl,rfl⟩
 |[],_::_,h,_,_=>by simp at h
 |_::_,[],h,_,_=>by simp at h
 |(k1,p1)::kps,(k2,v2)::kvs,h,r,k=>by
  simp only[List.map_cons,List.cons.injEq]at h
  cases r with
  |cons r1 r2=>
   by_cases e:k1=k
   ·subst e;exact .inl ⟨p1,v2,by simp[bj],by rw[kD (p:=(k2,v2)) h.1],r1⟩
   ·have e2:¬ k2=tk k:=fun z=>e (vm (h.1.symm.trans z));rw[kE (p:=(k2,v2)) e2];have:bj ((k1,p1)::kps) k=bj kps k:=by simp[bj,e]
    rw[this];exact nL h.2 r2 k
def yv(p q:PV)(h:List PO):Option Bool:=match q with
 |.str b=>match p with
  |.str a=>some (qA a b)
  |_=>none
 |q=>match W2 h q with
  |some kvs=>match kZ p with
   |some k=>some (bj kvs k).isSome
   |none=>none
  |none=>match WR h q with
   |some xs=>if Oq [] p=true∧xs.all (Oq [])=true then some (xs.any fun y=>PyData.eqv (toD y) (toD p))else none
   |none=>none
def Zj(p q:PV)(h:List PO):Res PV:=match yv p q h with
 |some b=>.ok (.bl b) h
 |none=>.bad
def fJ(p q:PV)(h:List PO):Res PV:=match yv p q h with
 |some b=>.ok (.bl (!b)) h
 |none=>.bad
noncomputable def Di(K:W.Frag)(neg:Bool):R2:=fun x y H Q=>∃b:Bool,Q (.bl (if neg then !b else b)) H∧
  ((∃i j,x=.str i∧y=.str j∧b=!(Builtin.Str.occurrences j i 0 j.length 1).isEmpty)∨(∃a o,y=.ref a∧uZ H a x o∧b=o.isSome)∨
   (∃p xs d ds,y=.ref p∧(O4 K H p xs∨PN K H p xs)∧U0 K H x d∧mq K H xs ds∧d.canLay0=true∧ds.all PyData.canLay0=true∧d.depth≤60∧b=ds.any fun e=>PyData.eqv e d))
section
variable{X:Cx}{T:Tab}{Ew:XK}{a b:Expr}{fa fb:Ex}{pos:Pos}
noncomputable def jW(h:Heap)(d:PyData)(y:Value):Bool:=open Classical in if q:∃e as,Reads h y e as∧e.canLay0=true then PyData.eqv q.choose d else false
theorem xv{h:Heap}{d e:PyData}{y:Value}{as:List Addr}(r:Reads h y e as)(c:e.canLay0=true):jW h d y=PyData.eqv e d:=by
 have q:∃e as,Reads h y e as∧e.canLay0=true:=⟨e,as,r,c⟩
 unfold jW;rw[dif_pos q];obtain⟨as',r',c'⟩:=q.choose_spec;rw[SeqAt.Reads.unique _ _ _ _ _ c r r']
theorem jA{h:Heap}{d:PyData}:∀{us:List Value}{ds:List PyData}{as:List Addr},ReadsAll h us ds as→ds.all PyData.canLay0=true→us.any (jW h d)=ds.any fun e=>PyData.eqv e d
 |_,_,_,.nil,_=>rfl
 |_,_,_,.cons r t,c=>by simp only[List.all_cons,abk]at c;rw[List.any_cons,List.any_cons,xv r c.1,jA t c.2]
theorem jp{A:Around}{s:Shared}{d:PyData}{v:Value}{bs:List Addr}(rv:Reads s.heap v d bs)(cd:d.canLay0=true)(hu:A.units+d.depth<cLine):
  ∀{us:List Value}{ds:List PyData}{as:List Addr},ReadsAll s.heap us ds as→ds.all PyData.canLay0=true→∀u∈us,SeqAt.EqAt A s u v (jW s.heap d u)
 |_,_,_,.nil,_=>fun u hu=>by cases hu
 |_,_,_,.cons r t,c=>fun u Xx=>by
  simp only[List.all_cons,abk]at c;rcases List.mem_cons.mp Xx with rfl|Xx
  ·rw[xv r c.1];exact SeqAt.eqAt_reads _ _ A s _ _ _ _ r rv c.1 cd (by have:=Nat.min_le_right (PyData.depth ‹PyData›) d.depth;omega)
  ·exact jp rv cd hu t c.2 u Xx
theorem HK(hu:X.A.units+64<cLine):Pa X (compareOp .In) (Di X.K false):=by
 intro pins s σ H x y v u Q I rx ry h;obtain⟨b,q,h⟩:=h;have fin:∀s',Inv X pins σ H s'→EP X pins σ Q (.bool b) s':=fun s' I'=>⟨.bl b,H,I',rfl,q⟩
 rcases h with⟨i,j,rfl,rfl,rfl⟩|⟨a,o,rfl,g,rfl⟩|⟨p,xs,d,ds,rfl,sq,rd,Zg,c1,c2,dp,rfl⟩
 ·obtain⟨t,rfl⟩:=rx;obtain⟨t',rfl⟩:=ry;exact in_str (fin s I)
 ·cases ry
  exact NP (by omega) I g rx fun s' I'=>fin s' I'
 ·cases ry
  obtain⟨as,ra⟩:=rd.reads I rx;rcases sq with hq|hq
  ·obtain⟨its,r,pl,hz⟩:=I.list hq;obtain⟨bs,rb⟩:=Zg.reads I r;refine SeqAt.in_listAt (jW s.heap d) pl.isList (fun w hw=>jp ra c1 (by show X.A.units+1+_<_;omega) rb c2 w (by simpa using hw)) ?_;rw[show its.toArray.any (jW s.heap d)=its.any (jW s.heap d) by simp,jA rb c2];exact fin s I
  ·obtain⟨its,r,pl,hz⟩:=I.tuple hq;obtain⟨bs,rb⟩:=Zg.reads I r;refine SeqAt.in_tupleAt (jW s.heap d) pl (fun w hw=>jp ra c1 (by show X.A.units+1+_<_;omega) rb c2 w (by simpa using hw)) ?_;rw[show its.toArray.any (jW s.heap d)=its.any (jW s.heap d) by simp,jA rb c2];exact fin s I
theorem hX(hu:X.A.units+64<cLine):Pa X (compareOp .NotIn) (Di X.K true):=by
 intro pins s σ H x y v u Q I rx ry h;obtain⟨b,q,h⟩:=h;have fin:∀s',Inv X pins σ H s'→EP X pins σ Q (.bool (!b)) s':=fun s' I'=>⟨.bl (!b),H,I',rfl,q⟩
 rcases h with⟨i,j,rfl,rfl,rfl⟩|⟨a,o,rfl,g,rfl⟩|⟨p,xs,d,ds,rfl,sq,rd,Zg,c1,c2,dp,rfl⟩
 ·obtain⟨t,rfl⟩:=rx;obtain⟨t',rfl⟩:=ry;exact notIn_str (fin s I)
 ·cases ry
  exact Fk (by omega) I g rx fun s' I'=>fin s' I'
 ·cases ry
  obtain⟨as,ra⟩:=rd.reads I rx;rcases sq with hq|hq
  ·obtain⟨its,r,pl,hz⟩:=I.list hq;obtain⟨bs,rb⟩:=Zg.reads I r;refine SeqAt.notIn_listAt (jW s.heap d) pl.isList (fun w hw=>jp ra c1 (by show X.A.units+1+_<_;omega) rb c2 w (by simpa using hw)) ?_;rw[show its.toArray.any (jW s.heap d)=its.any (jW s.heap d) by simp,jA rb c2];exact fin s I
  ·obtain⟨its,r,pl,hz⟩:=I.tuple hq;obtain⟨bs,rb⟩:=Zg.reads I r;refine SeqAt.notIn_tupleAt (jW s.heap d) pl (fun w hw=>jp ra c1 (by show X.A.units+1+_<_;omega) rb c2 w (by simpa using hw)) ?_;rw[show its.toArray.any (jW s.heap d)=its.any (jW s.heap d) by simp,jA rb c2];exact fin s I
theorem xy(p:PV):Tc [] p=toD p:=by
 unfold Tc
 split
 ·simp[toD]
 ·rfl
theorem gv:∀l:List PyData,PyData.canLayAll0 l=l.all PyData.canLay0
 |[]=>by simp[PyData.canLayAll0]
 |x::r=>by simp[PyData.canLayAll0,gv r]
theorem ua{K:W.Frag}{T:Tab}{F H:Hp}{m:List Addr}{h:List PO}{p q:PV}{x y:V}{k:Bool}(R:RelH K T F m h H)(rp:aF K T F m p x)(rq:aF K T F m q y)(e:yv p q h=some k):
    (∃i j,x=.str i∧y=.str j∧k=!(Builtin.Str.occurrences j i 0 j.length 1).isEmpty)∨(∃a o,y=.ref a∧uZ H a x o∧k=o.isSome)∨
   (∃p xs d ds,y=.ref p∧(O4 K H p xs∨PN K H p xs)∧U0 K H x d∧mq K H xs ds∧d.canLay0=true∧ds.all PyData.canLay0=true∧d.depth≤60∧k=ds.any fun e=>PyData.eqv e d):=by
  unfold yv at e
  split at e
  · rename_i b
    split at e
    · rename_i a
      cases rp;cases rq
      simp only[Option.some.injEq]at e;subst e;exact .inl ⟨_,_,rfl,rfl,(NW b a).symm⟩
    · cases e
  · split at e
    · rename_i kvs ed
      split at e
      · rename_i kk ek
        simp only[Option.some.injEq]at e;subst e;obtain⟨a,ws,rfl,rd,kq,rr⟩:=jO R rq ed;have hx:=jK rp ek;subst hx;refine .inr (.inl ⟨a,lJ ws (tk kk),rfl,.inl ⟨ws,tk kk,rd,rfl,rfl⟩,?_⟩);rcases nL kq rr kk with⟨p1,v1,h1,h2,_⟩|⟨h1,h2⟩
        · rw[h1,h2];rfl
        · rw[h1,h2];rfl
      · cases e
    · split at e
      · rename_i xs es
        split at e
        · rename_i hc
          simp only[Option.some.injEq]at e;subst e;obtain⟨a,ws,rfl,sq,rr⟩:=mV R rq es
          have h1:(toD p).canLay0=true∧(toD p).depth≤60:=by have:=hc.1;unfold Oq at this;simpa[xy]using this
          have h2:PyData.canLayAll0 (gS xs)=true:=by rw[gv,nN,List.all_map];rw[List.all_eq_true]at hc ⊢;intro z hz;have:=hc.2 z hz;unfold Oq at this;rw[xy,abk]at this;exact this.1
          refine .inr (.inr ⟨a,ws,toD p,gS xs,rfl,sq,rp.rd R.same h1.1,rr.rd R.same h2,h1.1,by rw[← gv];exact h2,h1.2,?_⟩);rw[nN,List.any_map];rfl
        · cases e
      · cases e
theorem Ds{K:W.Frag}{T:Tab}:dN K T (Di K false) Zj:=by
 intro F m h H x y p q Q Ew R rp rq w;unfold Zj at w
 split at w
 ·rename_i b e;exact⟨b,aN w R (.bl b),ua R rp rq e⟩
 ·exact w.elim
theorem gj{K:W.Frag}{T:Tab}:dN K T (Di K true) fJ:=by
 intro F m h H x y p q Q Ew R rp rq w;unfold fJ at w
 split at w
 ·rename_i b e;exact⟨b,aN w R (.bl (!b)),ua R rp rq e⟩
 ·exact w.elim
end
def cut{α:Type}(xs:List α)(lo hi:Option Int):List α:=(xs.drop (HT.J4 xs.length 0 lo)).take (HT.J4 xs.length xs.length hi - HT.J4 xs.length 0 lo)
theorem Ki(lo hi:Option Int)(n:Nat):Builtin.Str.strSliceIndices lo hi 1 n=(List.range (HT.J4 n n hi - HT.J4 n 0 lo)).map (HT.J4 n 0 lo+ ·):=by
 rw[← sliceRange_one];unfold Builtin.Str.strSliceIndices
 have e1:∀d:Nat,d≤n→∀o:Option Int,(match o with|none=>(d:Int)|some i=>(if(1:Int)>0 then max 0 (min (if i<0 then i+(n:Int)else i) n)else max (-1) (min (if i<0 then i+(n:Int)else i) ((n:Int) - 1))))=((HT.J4 n d o:Nat):Int):=by
  intro d hd o
  cases o with
  |none=>rfl
  |some i=>
   simp only[show(1:Int)>0 by decide,if_true,HT.J4]
   by_cases h:i<0
   ·simp only[h,if_true];omega
   ·simp only[h,if_false];omega
 have e2:=e1 0 (Nat.zero_le _) lo;have e3:=e1 n (abl _) hi;simp only[show(1:Int)>0 by decide,if_true]at e2 e3 ⊢;rw[← e2,← e3];rfl
theorem FA(l:List Nat)(lo hi:Option Int):Txt.slice (S l) lo hi=S (cut l lo hi):=by
 unfold Txt.slice;have hn:(S l).length=l.length:=fH l;rw[hn,Ki];have hlo:=HT.Vb l.length 0 (Nat.zero_le _) lo;have hhi:=HT.Vb l.length l.length (abl _) hi
 split
 ·rename_i h
  have h':HT.J4 l.length l.length hi - HT.J4 l.length 0 lo=l.length:=by simpa using h
  have e0:HT.J4 l.length 0 lo=0:=by omega
  unfold cut;rw[h',e0];simp
 ·rw[pick_run];show(⟨_⟩:Str)=⟨_⟩
  unfold cut;simp[S]
section
variable{K:W.Frag}{T:Tab}{F H:Hp}{m:List Addr}{h:List PO}
theorem au.cut{ps:List PV}{vs:List V}(r:au K T F m ps vs)(lo hi:Option Int):au K T F m (cut ps lo hi) (uO vs lo hi):=by unfold L3.cut L2.uO;rw[← r.length];exact(r.drop _).take _
end
def B_(p q:PV)(h:List PO):Res PV:=match p,q with
 |.str l,.int i=>match QW l i with
  |some c=>if l.length≤sizeLine then .ok (.str [c]) h else .bad
  |none=>.bad
 |.tup xs,.int i=>match QW xs i with
  |some v=>.ok (ao h v) h
  |none=>.bad
 |p,q=>match W2 h p with
  |some kvs=>match kZ q with
   |some k=>match bj kvs k with
    |some v=>.ok (ao h v) h
    |none=>.bad
   |none=>.bad
  |none=>match Vh h p with
   |some xs=>match q with
    |.int i=>match QW xs i with
     |some v=>.ok (ao h v) h
     |none=>.bad
    |_=>.bad
   |none=>.bad
def MA(K:W.Frag):R2:=fun x y H Q=>rIx K x y H Q∨∃a v,x=.ref a∧uZ H a y (some v)∧Q v H
theorem Dq{K:W.Frag}{T:Tab}:dN K T (MA K) B_:=by
 intro F m h H x y p q Q Ew R rp rq w;unfold B_ at w
 split at w
 ·rename_i l i
  cases rp;cases rq
  split at w
  ·rename_i c e
   split at w
   ·rename_i hz;exact .inl (.inr (.inr ⟨_,_,c,rfl,rfl,by rw[fH];exact hz,by rw[Mf];exact e,aN w R (.str [c])⟩))
   ·exact w.elim
  ·exact w.elim
 ·rename_i xs i
  cases rq
  split at w
  ·rename_i v e;obtain⟨a,vs,rfl,ea,ra⟩:=eZ R rp;obtain⟨u,eu,ru⟩:=ra.at e;exact .inl (.inr (.inl ⟨a,vs,i,u,rfl,rfl,ea,eu,aN w R (R.UJ ru)⟩))
  ·exact w.elim
 ·split at w
  ·rename_i kvs ed
   split at w
   ·rename_i k ek
    split at w
    ·rename_i v ev;obtain⟨a,ws,rfl,rd,kq,rr⟩:=jO R rp ed;have hy:=jK rq ek;subst hy;rcases nL kq rr k with⟨p1,v1,h1,h2,r1⟩|⟨h1,h2⟩
     ·rw[ev]at h1;cases h1;exact .inr ⟨a,v1,rfl,.inl ⟨ws,tk k,rd,rfl,h2.symm⟩,aN w R (R.UJ r1)⟩
     ·rw[ev]at h1;cases h1
    ·exact w.elim
   ·exact w.elim
  ·split at w
   ·rename_i xs el
    split at w
    ·cases rq
     split at w
     ·rename_i v e;obtain⟨a,vs,rfl,ea,ra⟩:=fP R rp el;obtain⟨u,eu,ru⟩:=ra.at e;exact .inl (.inl ⟨a,vs,_,u,rfl,rfl,ea,eu,aN w R (R.UJ ru)⟩)
     ·exact w.elim
    ·exact w.elim
   ·exact w.elim
section
variable{X:Cx}{T:Tab}{Ew:XK}{a b:Expr}{fa fb:Ex}{pos:Pos}
theorem EE(hu:X.A.units+1<cLine):WK X (fun x y H Q=>∃a v,x=.ref a∧uZ H a y (some v)∧Q v H):=by
 intro value slice pins s σ H x y v u Q I rx ry q hs;obtain⟨a,v1,rfl,g,q⟩:=q
 cases rx
 have hT:=uK I g;unfold subscriptTail;refine wpAny_bind ?_;rw[getitemInPython_of_ne hT.not_modules];refine wpAny_bind (wpAny_specialOf hT PySem.F.slot_dict_getitem.lookup ?_)
 have fin:wpAny (model X.prog X.w) X.A (subscripted slice false (.ref a) u) (fun r s₃=>wpAny (model X.prog X.w) X.A (letTemporaryGo value (.ref a) r >>= fun _=>pure r) (EP X pins σ Q) X.xe s₃) X.xe s:=by rw[hs];exact wpAny_operating (wpAny_mono (yZ (E:=X.xe) hu I g ry fun w' s3 I3 Tg=>show EP X pins σ Q w' s3 from⟨v1,H,I3,Tg,q⟩) (fun r s₃ h₃=>wpAny_bind (wpAny_letTemporaryGo (wpAny_pure h₃))) fun _ _ x=>x)
 first
  |exact wpAny_pure (wpAny_bind fin)
  |exact wpAny_bind (wpAny_pure (wpAny_bind fin))
  |exact wpAny_bind fin
theorem aH(hu:X.A.units+64<cLine)(ha:RE X T Ew a fa)(hb:RE X T Ew b fb)(hs:∀o i,subscripted b false o i=operate [o,i] (getItem o i):=by intro _ _;rfl):RE X T Ew (.Subscript a b pos) (c2 B_ fa fb):=by with_unfolding_all exact(
 PE.imp (KN (WK.or IQ (EE (by omega))) ha hb hs) fun σ H Q w=>w2 Dq w)
abbrev Ox:=Ev→List PO→Res (Option Int)
@[irreducible] def RO(X:Cx)(T:Tab)(Ew:XK)(e:Option Expr)(f:Ox):Prop:=L2.PO X e (fun σ H Q=>∃F m ρ h,gD X.K T F m ρ h σ H∧aB X.K T (fun _ _ (a b:Option Int)=>a=b) F m H Q Ew (f ρ h))
noncomputable def jZ:Ox:=fun _ h=>.ok none h
def jY(f:Ex):Ox:=fun ρ h=>(f ρ h).bind fun p h1=>match p with
 |.int i=>.ok (some i) h1
 |_=>.bad
theorem eJ:RO X T Ew none jZ:=by with_unfolding_all exact(
  (by rintro pins s σ H Q I ⟨F,m,ρ,h,R,p⟩;exact Dv pins s σ H Q I (aB.here p R.toRelH rfl)))
theorem gI{e:Expr}{f:Ex}(he:RE X T Ew e f):RO X T Ew (some e) (jY f):=by with_unfolding_all exact(
  fun pins s σ H Q I ⟨F,m,ρ,h,R,p⟩=>by
 refine Du he pins s σ H Q I ⟨F,m,ρ,h,R,(aB.bind p).mono ?_⟩;rintro x H1 ⟨F1,m1,h1,a,s1,R1,ra,p1⟩
 cases ra with
 |int i=>exact⟨i,rfl,aB.here p1 R1 rfl⟩
 |_=>exact p1.elim)
def pSl(p:PV)(lo hi:Option Int)(h:List PO):Res PV:=match p with
 |.str l=>if l.length≤sizeLine then .ok (.str (cut l lo hi)) h else .bad
 |.tup xs=>if HT.J4 xs.length 0 lo=0∧HT.J4 xs.length xs.length hi=xs.length then .bad else .ok (.tup (cut xs lo hi)) h
 |p=>match Vh h p with
  |some xs=>.ok (.lst (cut xs lo hi)) h
  |none=>.bad
def KA(K:W.Frag):V→Option Int→Option Int→Hp→VK→Prop:=fun x l u H Q=>Ky x l u H Q∨Kx K x l u H Q∨Kz K x l u H Q
theorem xg{K:W.Frag}{F H:Hp}{m:List Addr}{h:List PO}{Q:VK}{p:PV}{x:V}{lo hi:Option Int}(R:RelH K T F m h H)(rp:aF K T F m p x)(w:aB K T (aF K T) F m H Q Ew (pSl p lo hi h)):KA K x lo hi H Q:=by
 unfold pSl at w
 split at w
 ·cases rp
  split at w
  ·rename_i hz;exact .inl ⟨_,rfl,by rw[fH];exact hz,by rw[FA];exact aN w R (.str _)⟩
  ·exact w.elim
 ·rename_i xs
  split at w
  ·exact w.elim
  ·rename_i hz;obtain⟨a,vs,rfl,ea,ra⟩:=eZ R rp;exact .inr (.inl ⟨a,vs,rfl,ea,by rw[← ra.length];exact hz,kU w R (ra.cut lo hi)⟩)
 ·split at w
  ·rename_i xs el;obtain⟨a,vs,rfl,ea,ra⟩:=fP R rp el;exact .inr (.inr ⟨a,vs,rfl,ea,fB w R (ra.cut lo hi)⟩)
  ·exact w.elim
theorem oa{x:Str}{id:String}{r:List V→Hp→VK→Prop}{g:List PV→List PO→Res PV}{e:Expr}{es:List Expr}{f:Ax}{p:Pos}(hc:dD X (.builtin id) r)(P:qU X.K T r g)(hg:Gl X x)(hm:X.mg x=none)(hv:bootBuiltins x=some (.builtin id))
  (ha:RA X T Ew (e::es) f) (hn:x≠"__name__":=by decide) (PJ:nD0 x:=by decide)(he:sE0 X e es:=by rfl) (J3:sP0 X es pos:=by rfl):
  RE X T Ew (.Call (.Name x p) (e::es) [] pos) (cN g f):=by with_unfolding_all exact(
  PE.imp (AR hc hg hm hv ha hn PJ he J3) fun σ H Q w=>wN P w)
theorem gY{x:Str}{id:String}{r:List V→Hp→VK→Prop}{g:List PV→List PO→Res PV}{e:Expr}{es:List Expr}{f:Ax}{p:Pos}(hc:dD X (.type id) r)(P:qU X.K T r g)(hg:Gl X x)(hm:X.mg x=none)(hv:bootBuiltins x=some (.type id))
  (ha:RA X T Ew (e::es) f) (hn:x≠"__name__":=by decide) (PJ:nD0 x:=by decide)(he:sE0 X e es:=by rfl) (J3:sP0 X es pos:=by rfl):
  RE X T Ew (.Call (.Name x p) (e::es) [] pos) (cN g f):=by with_unfolding_all exact(
  PE.imp (qc hc hg hm hv ha hn PJ he J3) fun σ H Q w=>wN P w)
def Lb(h:List PO)(p:PV):Option Nat:=match p with
 |.str l=>if l.length≤sizeLine then some l.length else none
 |p=>match W2 h p with
  |some kvs=>some kvs.length
  |none=>match WR h p with
   |some xs=>some xs.length
   |none=>none
def gk(ps:List PV)(h:List PO):Res PV:=match ps with
 |[p]=>match Lb h p with
  |some n=>.ok (.int n) h
  |none=>.bad
 |_=>.bad
theorem zf{X:Cx}:dD X (.builtin "len") (fun xs H Q=>∃a kvs,xs= [V.ref a]∧Rd H a (.dK kvs)∧Q (.int kvs.length) H):=by
 intro pins s σ H xs us Q I r h;obtain⟨a,kvs,rfl,ha,q⟩:=h;obtain⟨u,rfl,ru⟩:=kB r
 cases ru
 exact LX I ha fun t s' I'=>⟨.int kvs.length,H,I',⟨t,rfl⟩,q⟩
theorem zh{X:Cx}:dD X (.builtin "len") (fun xs H Q=>(∃p ys,xs= [.ref p]∧(O4 X.K H p ys∨PN X.K H p ys)∧Q (.int ys.length) H)∨(∃z,xs= [.str z]∧z.length≤sizeLine∧Q (.int z.length) H)∨∃a kvs,xs= [V.ref a]∧Rd H a (.dK kvs)∧Q (.int kvs.length) H):=
 dD.or sE (dD.or sD zf)
theorem au.one{K:W.Frag}{F:Hp}{m:List Addr}{p:PV}{xs:List V}(r:au K T F m [p] xs):∃x,xs= [x]∧aF K T F m p x:=by
 cases r with
 |cons r t=>cases t;exact⟨_,rfl,r⟩
theorem au.two{K:W.Frag}{F:Hp}{m:List Addr}{p q:PV}{xs:List V}(r:au K T F m [p,q] xs):∃x y,xs= [x,y]∧aF K T F m p x∧aF K T F m q y:=by
 cases r with
 |cons r t=>cases t with
  |cons r2 t2=>cases t2;exact⟨_,_,rfl,r,r2⟩
theorem Au{K:W.Frag}{T:Tab}:qU K T (fun xs H Q=>(∃p ys,xs= [.ref p]∧(O4 K H p ys∨PN K H p ys)∧Q (.int ys.length) H)∨(∃z,xs= [.str z]∧z.length≤sizeLine∧Q (.int z.length) H)∨∃a kvs,xs= [V.ref a]∧Rd H a (.dK kvs)∧Q (.int kvs.length) H) gk:=by
 intro F m h H xs ps Q Ew R rp w;unfold gk at w
 split at w
 ·rename_i p;obtain⟨x,rfl,rx⟩:=rp.one
  split at w
  ·rename_i n e;unfold Lb at e
   split at e
   ·cases rx
    split at e
    ·rename_i hz;simp only[Option.some.injEq]at e;subst e;exact .inr (.inl ⟨_,rfl,by rw[fH];exact hz,by rw[fH];exact aN w R (.int _)⟩)
    ·cases e
   ·split at e
    ·rename_i kvs ed;simp only[Option.some.injEq]at e;subst e;obtain⟨a,ws,rfl,rd,kq,rr⟩:=jO R rx ed;have hl:ws.length=kvs.length:=by have:=congrArg List.length kq;simpa using this
     exact .inr (.inr ⟨a,ws,rfl,rd,by rw[hl];exact aN w R (.int _)⟩)
    ·split at e
     ·rename_i ys es;simp only[Option.some.injEq]at e;subst e;obtain⟨a,ws,rfl,sq,rr⟩:=mV R rx es;exact .inl ⟨a,ws,rfl,sq,by rw[← rr.length];exact aN w R (.int _)⟩
     ·cases e
  ·exact w.elim
 ·exact w.elim
def nM(h:List PO):PV→Option String
 |.non=>some "NoneType"
 |.bl _=>some "bool"
 |.int _=>some "int"
 |.str _=>some "str"
 |.tup _=>some "tuple"
 |p=>match W2 h p with
  |some _=>some "dict"
  |none=>match Vh h p with
   |some _=>some "list"
   |none=>none
noncomputable def FS(t c:String):Bool:=(t==c)||(t=="bool"&&c=="int")
noncomputable def xo:List String:=["str","int","bool","list","tuple","dict"]
def aR(ps:List PV)(h:List PO):Res PV:=match ps with
 |[p,.ty c]=>if xo.contains c=true then match nM h p with
   |some t=>.ok (.bl (FS t c)) h
   |none=>.bad
  else .bad
 |_=>.bad
end
inductive W5(K:W.Frag)(H:Hp):V→String→Prop where
 |non:W5 K H .non "NoneType"
 |bl (x:Bool):W5 K H (.bl x) "bool"
 |int (i:Int):W5 K H (.int i) "int"
 |str (x:Str):W5 K H (.str x) "str"
 |lst {a:Addr} {xs:List V} (e:O4 K H a xs):W5 K H (.ref a) "list"
 |tup {a:Addr} {xs:List V} (e:PN K H a xs):W5 K H (.ref a) "tuple"
 |dct {a:Addr} {kvs:List (Key×V)} (e:Rd H a (.dK kvs)):W5 K H (.ref a) "dict"
theorem sG{X:Cx}:dD X (.builtin "isinstance") (fun xs H Q=>∃x c t b,xs= [x,.ty c]∧W5 X.K H x t∧W.kitOne X.K (.type t) (.type c)=some b∧Q (.bl b) H):=by
 intro pins s σ H xs us Q I r h;obtain⟨x,c,t,b,rfl,ty,e,q⟩:=h;obtain⟨u,w',rfl,ru,Tg⟩:=JR r
 cases(show w'=Value.type c from Tg)
 have fin:∀tk,EP X pins σ Q (.bool b) { s with toks:=tk }:=fun tk=>⟨.bl b,H,I.tok tk,rfl,q⟩
 cases ty with
 |non=>cases(show u=Value.none from ru);exact W.kia_one W.kitx_none I.Qj True.intro e (fun z=>nomatch z) fin
 |bl y=>cases(show u=Value.bool y from ru);exact W.kia_one W.kitx_bool I.Qj True.intro e (fun z=>nomatch z) fin
 |int i=>obtain⟨t,q⟩:=(show∃t,u=Value.int i t from ru);cases q;exact W.kia_one W.kitx_int I.Qj True.intro e (fun z=>nomatch z) fin
 |str y=>obtain⟨t,q⟩:=(show∃t,u=Value.str y t from ru);cases q;exact W.kia_one W.kitx_str I.Qj True.intro e (fun z=>nomatch z) fin
 |lst ea=>
  cases ru
  obtain⟨its,_,⟨o,n,h1,h2,_,_⟩,_⟩:=I.list ea;exact W.kia_one W.kitx_list I.Qj ⟨_,h1,h2⟩ e (fun z=>nomatch z) fin
 |tup ea=>
  cases ru
  obtain⟨its,_,⟨o,h1,h2,_⟩,_⟩:=I.tuple ea;exact W.kia_one W.kitx_tuple I.Qj ⟨o,h1,h2⟩ e (fun z=>nomatch z) fin
 |dct ea=>
  cases ru
  obtain⟨_,_,vs,_,p⟩:=iU I.hok ea;obtain⟨o,es,ep,h1,h2,_⟩:=p;exact W.kia_one W.kitx_dict I.Qj ⟨o,h1,h2.1⟩ e (fun z=>nomatch z) fin
theorem vh{K:W.Frag}{T:Tab}{F H:Hp}{m:List Addr}{h:List PO}{p:PV}{x:V}{t:String}(R:RelH K T F m h H)(r:aF K T F m p x)(e:nM h p=some t):W5 K H x t:=by
 unfold nM at e
 split at e
 ·cases e;cases r;exact .non
 ·cases e;cases r;exact .bl _
 ·cases e;cases r;exact .int _
 ·cases e;cases r;exact .str _
 ·cases e
  obtain⟨a,vs,rfl,ea,_⟩:=eZ R r;exact .tup ea
 ·split at e
  ·rename_i kvs ed
   cases e
   obtain⟨a,ws,rfl,rd,_⟩:=jO R r ed;exact .dct rd
  ·split at e
   ·rename_i xs es
    cases e
    obtain⟨a,ws,rfl,sq,_⟩:=fP R r es;exact .lst sq
   ·cases e
theorem yM(K:W.Frag){t c:String}(ht:t∈ ["NoneType","bool","int","str","tuple","dict","list"])(hc:xo.contains c=true):W.kitOne K (.type t) (.type c)=some (FS t c):=by
 have Yn:c∈xo:=by simpa using hc
 simp only[xo,List.mem_cons,List.not_mem_nil,or_false]at Yn ht;rcases ht with rfl|rfl|rfl|rfl|rfl|rfl|rfl<;>rcases Yn with rfl|rfl|rfl|rfl|rfl|rfl<;>rfl
theorem vi{h:List PO}{p:PV}{t:String}(e:nM h p=some t):t∈ ["NoneType","bool","int","str","tuple","dict","list"]:=by
 unfold nM at e
 split at e
 ·cases e;simp
 ·cases e;simp
 ·cases e;simp
 ·cases e;simp
 ·cases e;simp
 ·split at e
  ·cases e;simp
  ·split at e
   ·cases e;simp
   ·cases e
section
variable{X:Cx}{T:Tab}{Ew:XK}{a b:Expr}{fa fb:Ex}{pos p0:Pos}
theorem tT{K:W.Frag}{T:Tab}:qU K T (fun xs H Q=>∃x c t b,xs= [x,.ty c]∧W5 K H x t∧W.kitOne K (.type t) (.type c)=some b∧Q (.bl b) H) aR:=by
 intro F m h H xs ps Q Ew R rp w;unfold aR at w
 split at w
 ·rename_i p c;obtain⟨x,y,rfl,rx,ry⟩:=rp.two
  cases ry
  split at w
  ·rename_i hc
   split at w
   ·rename_i t e;exact⟨x,c,t,_,rfl,vh R rx e,yM K (vi e) hc,aN w R (.bl _)⟩
   ·exact w.elim
  ·exact w.elim
 ·exact w.elim
theorem GX{x:Str}{n:String}{pos:Pos}(hg:Gl X x)(hm:X.mg x=none)(hv:bootBuiltins x=some (.type n))(hn:x≠"__name__":=by decide)(hd:nD0 x:=by decide):RE X T Ew (.Name x pos) (cK (.ty n)):=by with_unfolding_all exact(
 fy (DI (v:=.ty n) hg hm hv rfl hn hd) fun _ _=>.ty n)
theorem yc{e:Expr}{es:List Expr}{f:Ax}(hg:Gl X "isinstance")(hm:X.mg "isinstance"=none)(ha:RA X T Ew (e::es) f)
  (he:sE0 X e es:=by rfl) (J3:sP0 X es pos:=by rfl):
  RE X T Ew (.Call (.Name "isinstance" p0) (e::es) [] pos) (cN aR f):=by with_unfolding_all exact(
  oa sG tT hg hm (by decide+kernel) ha (by decide) (by decide) he J3)
theorem Hd{e:Expr}{es:List Expr}{f:Ax}(hg:Gl X "len")(hm:X.mg "len"=none)(ha:RA X T Ew (e::es) f)
  (he:sE0 X e es:=by rfl) (J3:sP0 X es pos:=by rfl):
  RE X T Ew (.Call (.Name "len" p0) (e::es) [] pos) (cN gk f):=by with_unfolding_all exact(
  oa zh Au hg hm (by decide+kernel) ha (by decide) (by decide) he J3)
noncomputable def DN(ps:List PV)(h:List PO):Res PV:=match ps with
 |[.int i]=>.ok (.int (if i<0 then -i else i)) h
 |_=>.bad
theorem He{e:Expr}{es:List Expr}{f:Ax}(hg:Gl X "abs")(hm:X.mg "abs"=none)(ha:RA X T Ew (e::es) f)
  (he:sE0 X e es:=by rfl) (J3:sP0 X es pos:=by rfl):
  RE X T Ew (.Call (.Name "abs" p0) (e::es) [] pos) (cN DN f):=by with_unfolding_all exact(
  oa BT (by
 intro F m h H xs ps Q Ew R rp w;unfold DN at w
 split at w
 ·obtain⟨x,rfl,rx⟩:=rp.one
  cases rx
  exact⟨_,rfl,aN w R (.int _)⟩
 ·exact w.elim) hg hm (by decide+kernel) ha (by decide) (by decide) he J3)
noncomputable def gN(i:Int):List Nat:=(Str.ofString (toString i)).cps.toList
def yt(ps:List PV)(h:List PO):Res PV:=match ps with
 |[.int i]=>if i.natAbs.log2<1920 then .ok (.str (gN i)) h else .bad
 |_=>.bad
theorem rG{e:Expr}{es:List Expr}{f:Ax}(hg:Gl X "str")(hm:X.mg "str"=none)(ha:RA X T Ew (e::es) f)
  (he:sE0 X e es:=by rfl) (J3:sP0 X es pos:=by rfl):
  RE X T Ew (.Call (.Name "str" p0) (e::es) [] pos) (cN yt f):=by with_unfolding_all exact(
  gY sB (by
 intro F m h H xs ps Q Ew R rp w;unfold yt at w
 split at w
 ·obtain⟨x,rfl,rx⟩:=rp.one
  cases rx
  split at w
  ·rename_i hz;have q:=aN w R (.str _);rw[gN,NV]at q;exact⟨_,rfl,hz,q⟩
  ·exact w.elim
 ·exact w.elim) hg hm (by decide+kernel) ha (by decide) (by decide) he J3)
noncomputable def yu(ps:List PV)(h:List PO):Res PV:=match ps with
 |[.int i]=>.ok (.int i) h
 |[.bl b]=>.ok (.int (if b then 1 else 0)) h
 |_=>.bad
theorem rJ{e:Expr}{es:List Expr}{f:Ax}(hg:Gl X "int")(hm:X.mg "int"=none)(ha:RA X T Ew (e::es) f)
  (he:sE0 X e es:=by rfl) (J3:sP0 X es pos:=by rfl):
  RE X T Ew (.Call (.Name "int" p0) (e::es) [] pos) (cN yu f):=by with_unfolding_all exact(
  gY zi (by
 intro F m h H xs ps Q Ew R rp w;unfold yu at w
 split at w
 ·obtain⟨x,rfl,rx⟩:=rp.one
  cases rx
  exact .inl ⟨_,rfl,aN w R (.int _)⟩
 ·obtain⟨x,rfl,rx⟩:=rp.one
  cases rx
  exact .inr ⟨_,rfl,aN w R (.int _)⟩
 ·exact w.elim) hg hm (by decide+kernel) ha (by decide) (by decide) he J3)
def rS(ps:List PV)(h:List PO):Res PV:=match ps with
 |[p]=>match WR h p with
  |some xs=>.ok (.tup xs) h
  |none=>.bad
 |_=>.bad
theorem zW{e:Expr}{es:List Expr}{f:Ax}(hg:Gl X "tuple")(hm:X.mg "tuple"=none)(ha:RA X T Ew (e::es) f)
  (he:sE0 X e es:=by rfl) (J3:sP0 X es pos:=by rfl):
  RE X T Ew (.Call (.Name "tuple" p0) (e::es) [] pos) (cN rS f):=by with_unfolding_all exact(
  gY pC (by
 intro F m h H xs ps Q Ew R rp w;unfold rS at w
 split at w
 ·rename_i p;obtain⟨x,rfl,rx⟩:=rp.one
  split at w
  ·rename_i ys es
   by_cases ht:∃zs,p=.tup zs
   ·obtain⟨zs,rfl⟩:=ht;simp only[WR,Option.some.injEq]at es;subst es;obtain⟨a,vs,rfl,ea,ra⟩:=eZ R rx;exact⟨a,vs,rfl,.inr ⟨ea,aN w R rx⟩⟩
   ·have e':Vh h p=some ys:=by
     unfold WR at es
     split at es
     ·exact absurd ⟨_,rfl⟩ ht
     ·exact es
    obtain⟨a,vs,rfl,ea,ra⟩:=fP R rx e';exact⟨a,vs,rfl,.inl ⟨ea,kU w R ra⟩⟩
  ·exact w.elim
 ·exact w.elim) hg hm (by decide+kernel) ha (by decide) (by decide) he J3)
def tZ(ps:List PV)(h:List PO):Res PV:=match ps with
 |[p]=>match WR h p with
  |some xs=>.ok (.lst xs) h
  |none=>.bad
 |_=>.bad
theorem Dc{e:Expr}{es:List Expr}{f:Ax}(hg:Gl X "list")(hm:X.mg "list"=none)(ha:RA X T Ew (e::es) f)
  (he:sE0 X e es:=by rfl) (J3:sP0 X es pos:=by rfl):
  RE X T Ew (.Call (.Name "list" p0) (e::es) [] pos) (cN tZ f):=by with_unfolding_all exact(
  gY sC (by
 intro F m h H xs ps Q Ew R rp w;unfold tZ at w
 split at w
 ·obtain⟨x,rfl,rx⟩:=rp.one
  split at w
  ·rename_i ys es;obtain⟨a,vs,rfl,ea,ra⟩:=mV R rx es;exact⟨a,vs,rfl,ea,fB w R ra⟩
  ·exact w.elim
 ·exact w.elim) hg hm (by decide+kernel) ha (by decide) (by decide) he J3)
noncomputable def ph(ps:List PV)(h:List PO):Res PV:=if ps.length≤sizeLine then .ok (.lst ps) h else .bad
noncomputable def ji(ps:List PV)(h:List PO):Res PV:=if ps.length≤sizeLine then .ok (.ref h.length) (h++ [.lst ps])else .bad
noncomputable def aV(ps:List PV)(h:List PO):Res PV:=if ps.length≤sizeLine then .ok (.tup ps) h else .bad
theorem kn{es:List Expr}{f:Ax}(ha:RA X T Ew es f):RE X T Ew (.List es pos) (cN ph f):=by with_unfolding_all
 refine PE.imp (AN ha) ?_;rintro σ H Q ⟨F,m,ρ,h,R,p⟩;refine⟨F,m,ρ,h,R,(aB.bind p).mono ?_⟩;rintro xs H1 ⟨F1,m1,h1,ps,s1,R1,r1,w1⟩
 unfold ph at w1
 split at w1
 ·rename_i hz;exact⟨by rw[← r1.length];exact hz,fB w1 R1 r1⟩
 ·exact w1.elim
theorem kQ{es:List Expr}{f:Ax}(ha:RA X T Ew es f):RE X T Ew (.List es pos) (cN ji f):=by with_unfolding_all
 refine PE.imp (AN ha) ?_;rintro σ H Q ⟨F,m,ρ,h,R,p⟩;refine⟨F,m,ρ,h,R,(aB.bind p).mono ?_⟩;rintro xs H1 ⟨F1,m1,h1,ps,s1,R1,r1,w1⟩
 unfold ji at w1
 split at w1
 ·rename_i hz;exact⟨by rw[← r1.length];exact hz,tU w1 R1 r1⟩
 ·exact w1.elim
theorem aD{es:List Expr}{f:Ax}{x1}(ha:RA X T Ew es f):RE X T Ew (.Tuple es x1 pos) (cN aV f):=by with_unfolding_all
 refine PE.imp (Hw ha) ?_;rintro σ H Q ⟨F,m,ρ,h,R,p⟩;refine⟨F,m,ρ,h,R,(aB.bind p).mono ?_⟩;rintro xs H1 ⟨F1,m1,h1,ps,s1,R1,r1,w1⟩
 unfold aV at w1
 split at w1
 ·rename_i hz;exact⟨by rw[← r1.length];exact hz,kU w1 R1 r1⟩
 ·exact w1.elim
noncomputable def dcM(h:List PO):PV→Option (List (PK×PV))
 |.ref i=>match h[i]? with
  |some (.dct kvs)=>some kvs
  |_=>none
 |_=>none
theorem Fj{K:W.Frag}{F H:Hp}{m:List Addr}{h:List PO}{p:PV}{x:V}{kps:List (PK×PV)}(R:RelH K T F m h H)(r:aF K T F m p x)(e:dcM h p=some kps):∃a kvs,x=.ref a∧H a=some (.dK kvs)∧kvs.map (·.1)=kps.map (fun p=>tk p.1)∧au K T F m (kps.map (·.2)) (kvs.map (·.2)):=by
 cases r with
 |@ref i a em=>
  have e:(match h[i]? with|some (.dct xs)=>some xs|_=>none)=some kps:=e
  cases q:h[i]? with
  |none=>rw[q]at e;cases e
  |some o=>
   rw[q]at e
   cases o with
   |dct xs=>simp only[Option.some.injEq]at e;subst e;obtain⟨_,vs,e1,k,rr⟩:=R.obj i _ a q em;exact⟨a,vs,rfl,e1,k,rr⟩
   |lst _=>cases e
   |G7 _=>cases e
   |obj _ _=>cases e
 |_=>simp[dcM]at e
def qW(h:List PO):PV→Option Bool
 |.non=>some false
 |.bl b=>some b
 |.int i=>some (i !=0)
 |.str l=>if l.length≤sizeLine then some (!l.isEmpty)else none
 |p=>match WR h p with
  |some xs=>some (!xs.isEmpty)
  |none=>match dcM h p with
   |some kvs=>some (!kvs.isEmpty)
   |none=>none
def eG(f:Ex):Tx:=fun ρ h=>(f ρ h).bind fun p h1=>match qW h1 p with
 |some b=>.ok b h1
 |none=>.bad
theorem ju{α β:Type}{xs:List α}{ys:List β}(h:xs.length=ys.length):xs.isEmpty=ys.isEmpty:=by cases xs<;>cases ys<;>simp at h ⊢
theorem zD{K:W.Frag}{F H:Hp}{m:List Addr}{h:List PO}{p:PV}{x:V}{k:Bool}(R:RelH K T F m h H)(r:aF K T F m p x)(e:qW h p=some k):JC K x H k:=by
 unfold qW at e
 split at e
 ·cases e;cases r;exact rfl
 ·cases e;cases r;exact rfl
 ·cases e;cases r;exact rfl
 ·rename_i l
  cases r
  split at e
  ·rename_i hz
   cases e
   refine⟨by rw[fH];exact hz,?_⟩;rw[fH]
   cases l<;>simp
   omega
  ·cases e
 ·split at e
  ·rename_i xs es
   cases e
   obtain⟨a,vs,rfl,ea,ra⟩:=mV R r es;rcases ea with ea|ea
   ·exact .inl ⟨vs,ea,by rw[ju ra.length]⟩
   ·exact .inr (.inl ⟨vs,ea,by rw[ju ra.length]⟩)
  ·split at e
   ·rename_i kvs ed
    cases e
    obtain⟨a,ws,rfl,e1,kq,_⟩:=Fj R r ed;have hl:ws.length=kvs.length:=by have:=congrArg List.length kq;simpa using this
    exact .inr (.inr ⟨ws,e1,by rw[ju hl]⟩)
   ·cases e
theorem df(ha:RE X T Ew a fa)(he:∀whole,isTrue a X.env whole=(do let v ← whole;standAt a.pos;holding [v] (truthy v)):=by intro _;rfl):RT X T Ew a (eG fa):=by with_unfolding_all
 refine PT.imp (Ak ha he) ?_;rintro σ H Q ⟨F,m,ρ,h,R,p⟩;refine⟨F,m,ρ,h,R,(aB.bind p).mono ?_⟩;rintro x H1 ⟨F1,m1,h1,p1,s1,R1,r1,w1⟩
 cases e:qW h1 p1 with
 |none=>rw[e]at w1;exact w1.elim
 |some k=>rw[e]at w1;exact⟨k,zD R1 r1 e,aB.here w1 R1 rfl⟩
def bI(f:Ex):Tx:=fun ρ h=>(f ρ h).bind fun p h1=>match p with
 |.bl b=>.ok b h1
 |_=>.bad
theorem bU{op:CmpOp}{r:R2}{g:PV→PV→List PO→Res PV}(ho:Pa X (compareOp op) r)(P:dN X.K T r g)(ha:RE X T Ew a fa)(hb:RE X T Ew b fb)(hm:behindInMarks op b=false):RT X T Ew (.Compare a [op] [b] pos) (bI (c2 g fa fb)):=by with_unfolding_all
 refine PT.imp (Dk ho ha hb hm) ?_;rintro σ H Q ⟨F,m,ρ,h,R,p⟩
 have p':=(aB.bind (R:=aF X.K T) p).mono (Q':=fun x H1=>∃k,x=.bl k∧Q k H1) fun x H1 ⟨F1,m1,h1,p1,s1,R1,r1,w1⟩=>by
  cases r1 with
  |bl k=>exact⟨k,rfl,aB.here w1 R1 rfl⟩
  |_=>exact w1.elim
 exact w2 P ⟨F,m,ρ,h,R,p'⟩
def gb(f:Tx):Tx:=fun ρ h=>(f ρ h).bind fun b h1=>.ok (!b) h1
def zE(f g:Tx):Tx:=fun ρ h=>(f ρ h).bind fun b h1=>if b=true then .ok true h1 else g ρ h1
theorem eQ{f:Tx}(ha:RT X T Ew a f):RT X T Ew (.UnaryOp .Not a pos) (gb f):=by with_unfolding_all exact(
 PT.imp (Hh ha) (by rintro σ H Q ⟨F,m,ρ,h,R,p⟩;exact ⟨F,m,ρ,h,R,(aB.bind p).mono (by rintro x H1 ⟨F1,m1,h1,p1,s1,R1,r1,w1⟩;cases r1;exact aB.here w1 R1 rfl)⟩))
@[irreducible] def RW(X:Cx)(T:Tab)(Ew:XK)(e:Expr)(f:Tx):Prop:=PW X e (wT X T Ew f)
theorem RW.rt{e:Expr}{f:Tx}(h:RW X T Ew e f):RT X T Ew e f:=by with_unfolding_all exact(
  PW.pt h)
theorem vw{f:Tx}(ha:RT X T Ew a f):RW X T Ew (.BoolOp .Or [a] pos) f:=by with_unfolding_all exact(
  Hg ha)
theorem zM{f g:Tx}{rest:List Expr}(ha:RT X T Ew a f)(hb:RW X T Ew (.BoolOp .Or (b::rest) pos) g):RW X T Ew (.BoolOp .Or (a::b::rest) pos) (zE f g):=by with_unfolding_all
 refine PW.imp (KJ ha hb) ?_;rintro σ H Q ⟨F,m,ρ,h,R,p⟩;refine⟨F,m,ρ,h,R,(aB.bind p).mono ?_⟩;rintro x H1 ⟨F1,m1,h1,p1,s1,R1,r1,w1⟩
 cases r1
 cases x with
 |true=>exact yQ (aB.here w1 R1 rfl)
 |false=>exact yR ⟨F1,m1,ρ,h1,R.of s1 R1,w1⟩
def pG(f g:Ex):Ex:=fun ρ h=>(f ρ h).bind fun p h1=>match p with
 |.bl b=>if b=true then g ρ h1 else .ok (.bl false) h1
 |_=>.bad
def Jx(f:Ex):Ex:=fun ρ h=>(f ρ h).bind fun p h1=>match p with
 |.bl b=>.ok (.bl (!b)) h1
 |_=>.bad
theorem nX{op}(ha:RE X T Ew a fa):RE X T Ew (.BoolOp op [a] pos) fa:=by with_unfolding_all exact(
  Hy ha)
theorem jf{rest:List Expr}(ha:RE X T Ew a fa)(hb:RE X T Ew (.BoolOp .And (b::rest) pos) fb):RE X T Ew (.BoolOp .And (a::b::rest) pos) (pG fa fb):=by with_unfolding_all
 refine PE.imp (HD ha hb) ?_;rintro σ H Q ⟨F,m,ρ,h,R,p⟩;refine⟨F,m,ρ,h,R,(aB.bind p).mono ?_⟩;rintro x H1 ⟨F1,m1,h1,p1,s1,R1,r1,w1⟩
 cases r1 with
 |bl k=>
  refine⟨k,rfl,?_⟩
  cases k with
  |true=>exact yQ ⟨F1,m1,ρ,h1,R.of s1 R1,w1⟩
  |false=>exact yR (aB.here w1 R1 (.bl _))
 |_=>exact w1.elim
theorem Hb(ha:RE X T Ew a fa):RE X T Ew (.UnaryOp .Not a pos) (Jx fa):=by with_unfolding_all
 refine PE.imp (Hz ha) ?_;rintro σ H Q ⟨F,m,ρ,h,R,p⟩;refine⟨F,m,ρ,h,R,(aB.bind p).mono ?_⟩;rintro x H1 ⟨F1,m1,h1,p1,s1,R1,r1,w1⟩
 cases r1 with
 |bl k=>exact⟨k,rfl,aB.here w1 R1 (.bl _)⟩
 |_=>exact w1.elim
def Fr(t:Tx)(f g:Ex):Ex:=fun ρ h=>(t ρ h).bind fun b h1=>if b=true then f ρ h1 else g ρ h1
theorem tI{c:Expr}{t:Tx}(hc:RT X T Ew c t)(ha:RE X T Ew a fa)(hb:RE X T Ew b fb):RE X T Ew (.IfExp c a b pos) (Fr t fa fb):=by with_unfolding_all
 refine PE.imp (AO hc ha hb) ?_;rintro σ H Q ⟨F,m,ρ,h,R,p⟩;refine⟨F,m,ρ,h,R,(aB.bind p).mono ?_⟩;rintro x H1 ⟨F1,m1,h1,p1,s1,R1,r1,w1⟩
 cases r1
 cases x with
 |true=>exact yQ ⟨F1,m1,ρ,h1,R.of s1 R1,w1⟩
 |false=>exact yR ⟨F1,m1,ρ,h1,R.of s1 R1,w1⟩
end
section
variable{K:W.Frag}{T:Tab}{F H:Hp}{m:List Addr}{h:List PO}
theorem RelH.upd{i:Nat}{a:Addr}{o':PO}{ho:HO}(R:RelH K T F m h H)(em:m[i]? =some a)(hF:F a=none)(hH:∃u,H a=some u)(new:uW K T F m (upd H a ho) a o'):
  aP F m H F m (upd H a ho)∧RelH K T F m (h.set i o') (upd H a ho):=by
 have hi:i<h.length:=by
  rw[R.len];rcases Nat.lt_or_ge i m.length with q|q
  ·exact q
  ·rw[List.getElem?_eq_none q]at em;cases em
 have am:a∈m:=List.mem_of_getElem? em;refine⟨⟨cA.refl _,⟨[],by simp⟩,fun b u e n=>(aj (fun z=>n (by rw[z];exact am))).trans e,fun b u e=>?_,fun j c hj e=>(by rw[List.getElem?_eq_none hj]at e;cases e),fun c u e=>.inl e⟩,?_⟩
 ·by_cases hb:b=a
  ·subst hb;exact⟨_,aA⟩
  ·exact⟨u,by rw[aj hb];exact e⟩
 ·refine⟨fun b u e=>?_,by rw[List.length_set];exact R.len,fun j ob c e1 e2=>?_,R.nd⟩
  ·have hb:b≠a:=fun z=>by rw[z,hF]at e;cases e
   rw[aj hb];exact R.same b u e
  ·by_cases hj:i=j
   ·subst hj;rw[List.getElem?_set_self hi]at e1
    cases e1
    rw[em]at e2;cases e2;exact new
   ·rw[List.getElem?_set_ne hj]at e1
    have hc:c≠a:=fun z=>by
     subst z
     exact hj (by
      have Uy:i<m.length:=by rw[← R.len];exact hi
      have Wv:j<m.length:=by
       rcases Nat.lt_or_ge j m.length with q|q
       ·exact q
       ·rw[List.getElem?_eq_none q]at e2;cases e2
      rw[List.getElem?_eq_getElem Uy,Option.some.injEq]at em;rw[List.getElem?_eq_getElem Wv,Option.some.injEq]at e2;exact(List.getElem_inj R.nd).mp (em.trans e2.symm))
    have q:=R.obj j ob c e1 e2
    cases ob with
    |lst xs=>obtain⟨f,vs,z,rr⟩:=q;exact⟨f,vs,by rw[aj hc];exact z,rr⟩
    |dct xs=>obtain⟨f,vs,z,k,rr⟩:=q;exact⟨f,vs,by rw[aj hc];exact z,k,rr⟩
    |G7 q'=>exact q
    |obj C fs=>obtain⟨f,vs,⟨Ca,dx,u,z,d⟩,k,rr⟩:=q;exact⟨f,vs,⟨Ca,dx,u,by rw[aj hc];exact z,d⟩,k,rr⟩
noncomputable def qm(h:List PO):PV→Option (Nat×List PV)
 |.ref i=>match h[i]? with
  |some (.lst xs)=>some (i,xs)
  |_=>none
 |_=>none
theorem qk{p:PV}{x:V}{i:Nat}{ps:List PV}(R:RelH K T F m h H)(r:aF K T F m p x)(e:qm h p=some (i,ps)):∃a vs,x=.ref a∧m[i]? =some a∧F a=none∧H a=some (.lst vs)∧au K T F m ps vs:=by
 cases r with
 |@ref j a em=>
  have e:(match h[j]? with|some (.lst xs)=>some (j,xs)|_=>none)=some (i,ps):=e
  cases q:h[j]? with
  |none=>rw[q]at e;cases e
  |some o=>
   rw[q]at e
   cases o with
   |lst xs=>simp only[Option.some.injEq,Prod.mk.injEq]at e;obtain⟨rfl,rfl⟩:=e;obtain⟨f,vs,e1,rr⟩:=R.obj j _ a q em;exact⟨a,vs,rfl,em,f,e1,rr⟩
   |dct _=>cases e
   |G7 _=>cases e
   |obj _ _=>cases e
 |_=>simp[qm]at e
theorem Az{Q:VK}{Ew:XK}{i:Nat}{a:Addr}{ps:List PV}{vs YC:List V}{p:PV}{x:V}(w:aB K T (aF K T) F m H Q Ew (.ok p (h.set i (.lst ps))))(R:RelH K T F m h H)(em:m[i]? =some a)(hF:F a=none)(hH:H a=some (.lst YC))(r:au K T F m ps vs)
  (rp:aF K T F m p x):Q x (upd H a (.lst vs)):=by
 obtain⟨s,R'⟩:=R.upd (o':=.lst ps) (ho:=.lst vs) em hF ⟨_,hH⟩ ⟨hF,vs,aA,r⟩;exact w F m _ _ s R' rp
def eL(h:List PO):PV→Option (PV×List PO)
 |.ref i=>match h[i]? with
  |some (.lst xs)=>if ag xs=true then some (.lst xs,h.set i (.G7 (.lst xs)))else none
  |some (.dct _)=>none
  |some (.G7 p)=>some (p,h)
  |some (.obj _ _)=>none
  |none=>none
 |p=>if p.pure=true then some (p,h)else none
theorem EQ{i:Nat}{a:Addr}{u:HO}{p:PV}(R:RelH K T F m h H)(em:m[i]? =some a)(hF:F a=none)(hH:H a=some u)(hp:p.pure=true)(r:aF K T (upd F a u) m p (.ref a)):
  aP F m H (upd F a u) m H∧RelH K T (upd F a u) m (h.set i (.G7 p)) H:=by
 have hi:i<h.length:=by
  rw[R.len];rcases Nat.lt_or_ge i m.length with q|q
  ·exact q
  ·rw[List.getElem?_eq_none q]at em;cases em
 have am:a∈m:=List.mem_of_getElem? em;have sF:cA F (upd F a u):=fx hF u;refine⟨⟨sF,⟨[],by simp⟩,fun b o e _=>e,fun b o e=>⟨o,e⟩,fun j c hj e=>(by rw[List.getElem?_eq_none hj]at e;cases e),fun c o e=>?_⟩,?_⟩
 ·by_cases hc:c=a
  ·subst hc;exact .inr (.inr am)
  ·rw[aj hc]at e;exact .inl e
 ·refine⟨fun b o e=>?_,by rw[List.length_set];exact R.len,fun j ob c e1 e2=>?_,R.nd⟩
  ·by_cases hb:b=a
   ·subst hb;rw[aA]at e;cases e;exact hH
   ·rw[aj hb]at e;exact R.same b o e
  ·by_cases hj:i=j
   ·subst hj;rw[List.getElem?_set_self hi]at e1
    cases e1
    rw[em]at e2;cases e2;exact⟨r,hp,u,aA⟩
   ·rw[List.getElem?_set_ne hj]at e1
    have hc:c≠a:=fun z=>by
     subst z
     exact hj (by
      have Uy:i<m.length:=by rw[← R.len];exact hi
      have Wv:j<m.length:=by
       rcases Nat.lt_or_ge j m.length with q|q
       ·exact q
       ·rw[List.getElem?_eq_none q]at e2;cases e2
      rw[List.getElem?_eq_getElem Uy,Option.some.injEq]at em;rw[List.getElem?_eq_getElem Wv,Option.some.injEq]at e2;exact(List.getElem_inj R.nd).mp (em.trans e2.symm))
    have q:=R.obj j ob c e1 e2
    cases ob with
    |lst xs=>obtain⟨f,vs,z,rr⟩:=q;exact⟨by rw[aj hc];exact f,vs,z,rr.mono sF fun _ _ h=>h⟩
    |dct xs=>obtain⟨f,vs,z,k,rr⟩:=q;exact⟨by rw[aj hc];exact f,vs,z,k,rr.mono sF fun _ _ h=>h⟩
    |G7 q'=>obtain⟨r1,r2,o,r3⟩:=q;exact⟨r1.mono sF fun _ _ h=>h,r2,o,sF _ _ r3⟩
    |obj C fs=>obtain⟨f,vs,⟨Ca,dx,u,z,d⟩,k,rr⟩:=q;exact⟨by rw[aj hc];exact f,vs,⟨Ca,dx,u,z,sF _ _ d⟩,k,rr.mono sF fun _ _ h=>h⟩
theorem gq{p q:PV}{x:V}{h':List PO}(R:RelH K T F m h H)(r:aF K T F m p x)(e:eL h p=some (q,h')):∃F',aP F m H F' m H∧RelH K T F' m h' H∧aF K T F' m q x∧q.pure=true:=by
 by_cases hr:∃i,p=.ref i
 ·obtain⟨i,rfl⟩:=hr
  have e:(match h[i]? with
   |some (.lst xs)=>if ag xs=true then some (PV.lst xs,h.set i (.G7 (.lst xs)))else none
   |some (.dct _)=>none
   |some (.G7 p)=>some (p,h)
   |some (.obj _ _)=>none
   |none=>none)=some (q,h'):=e
  cases r with
  |@ref _ a em=>
   cases z:h[i]? with
   |none=>rw[z]at e;cases e
   |some o=>
    rw[z]at e;have ob:=R.obj i o a z em
    cases o with
    |lst xs=>
     by_cases hp:ag xs=true
     ·simp only[hp,if_true,Option.some.injEq,Prod.mk.injEq]at e;obtain⟨rfl,rfl⟩:=e;obtain⟨f,vs,e1,rr⟩:=ob;have rl:aF K T (L2.upd F a (.lst vs)) m (.lst xs) (.ref a):=.lst aA (rr.mono (fx f _) fun _ _ h=>h);have pp:(PV.lst xs).pure=true:=by simpa[PV.pure]using hp
      obtain⟨s,R'⟩:=EQ R em f e1 pp rl;exact⟨_,s,R',rl,pp⟩
     ·simp[hp]at e
    |dct kvs=>cases e
    |obj _ _=>cases e
    |G7 p=>simp only[Option.some.injEq,Prod.mk.injEq]at e;obtain⟨rfl,rfl⟩:=e;exact⟨F,.refl,R,ob.1,ob.2.1⟩
 ·have e':(if p.pure=true then some (p,h)else none)=some (q,h'):=by
   unfold eL at e
   split at e
   ·exact absurd ⟨_,rfl⟩ hr
   ·exact e
  by_cases hp:p.pure=true
  ·simp only[hp,if_true,Option.some.injEq,Prod.mk.injEq]at e';obtain⟨rfl,rfl⟩:=e';exact⟨F,.refl,R,r,hp⟩
  ·simp[hp]at e'
def M7:List PV→List PO→Option (List PV×List PO)
 |[],h=>some ([],h)
 |p::r,h=>match eL h p with
  |some (q,h1)=>match M7 r h1 with
   |some (qs,h2)=>some (q::qs,h2)
   |none=>none
  |none=>none
end
theorem uE{K:W.Frag}{T:Tab}{m:List Addr}{H:Hp}:∀{ps qs:List PV}{xs:List V}{h h':List PO}{F:Hp},RelH K T F m h H→au K T F m ps xs→M7 ps h=some (qs,h')→
  ∃F',aP F m H F' m H∧RelH K T F' m h' H∧au K T F' m qs xs∧ag qs=true
 |[],qs,xs,h,h',F,R,r,e=>by simp only[M7,Option.some.injEq,Prod.mk.injEq]at e;obtain⟨rfl,rfl⟩:=e;exact⟨F,.refl,R,r,by simp[ag]⟩
 |p::ps,qs,xs,h,h',F,R,r,e=>by
  cases r with
  |cons r1 r2=>
   unfold M7 at e
   cases z:eL h p with
   |none=>rw[z]at e;cases e
   |some a=>
    obtain⟨q,h1⟩:=a;rw[z]at e;dsimp only at e
    cases z2:M7 ps h1 with
    |none=>rw[z2]at e;cases e
    |some b=>obtain⟨qs2,h2⟩:=b;rw[z2]at e;simp only[Option.some.injEq,Prod.mk.injEq]at e;obtain⟨rfl,rfl⟩:=e;obtain⟨F1,s1,R1,ra,p1⟩:=gq R r1 z;obtain⟨F2,s2,R2,rb,p2⟩:=uE R1 (s1.reps r2) z2;exact⟨F2,s1.trans s2,R2,.cons (s2.rep ra) rb,by simp[ag,p1,p2]⟩
def Ck(K:W.Frag)(T:Tab)(r:V→List V→Hp→VK→Prop)(g:PV→List PV→List PO→Res PV):Prop:=
 ∀F m h H x xs p ps Q Ew,RelH K T F m h H→aF K T F m p x→au K T F m ps xs→aB K T (aF K T) F m H Q Ew (g p ps h)→r x xs H Q
def cM(recv:List PO→PV→Bool)(g:PV→List PV→List PO→Res PV)(o:Ex)(as:Ax):Ex:=fun ρ h=>(o ρ h).bind fun p h1=>if recv h1 p=true then(as ρ h1).bind fun ps h2=>g p ps h2 else .bad
noncomputable def lj(_:List PO):PV→Bool
 |.str _=>true
 |_=>false
def iT(h:List PO)(p:PV):Bool:=(Vh h p).isSome
section
variable{X:Cx}{T:Tab}{Ew:XK}{o e:Expr}{es:List Expr}{fo:Ex}{fs:Ax}{name:Str}{apos O2:Pos}{id:String}{r:V→List V→Hp→VK→Prop}{g:PV→List PV→List PO→Res PV}
theorem gZ{Ty:String}{recv:List PO→PV→Bool}(ty:∀F m h H p x,RelH X.K T F m h H→aF X.K T F m p x→recv h p=true→Y7 X.K Ty x H)(pa:PlainAttrs Ty)(slot:Slot Ty name id)(Yh:typeOf (.builtin id)=pure (.type "method_descriptor"))(hm:MtR X id r)(P:Ck X.K T r g)
  (ho:RE X T Ew o fo) (ha:RA X T Ew (e::es) fs)
  (QH:attributeBase o name X.env (eval o X.env)=eval o X.env:=by rfl)
  (Ym:((backTo O2 (starEach (e::es) X.env)).all (fun x=>!x.1)&&(backToKw O2 (keywordEach [] X.env)).all (fun x=>x.1.isSome)
   &&decide ((e::es).length+([]:List Keyword).length+(if([]:List Keyword).isEmpty then 0 else 1)<30))=true:=by rfl)
  (hline:(apos.endLine==O2.line)=true:=by rfl)(hs:sE0 X e es:=by rfl) (Vj:(backTo O2 (starEach es X.env)).any (·.1)=false:=by rfl):
  RE X T Ew (.Call (.Attribute o name apos) (e::es) [] O2) (cM recv g fo fs):=by with_unfolding_all
 refine PE.imp (KO pa slot Yh hm ho ha QH Ym hline hs Vj) ?_;rintro σ H Q ⟨F,m,ρ,h,R,p⟩;refine⟨F,m,ρ,h,R,(aB.bind p).mono ?_⟩;rintro x H1 ⟨F1,m1,h1,p1,s1,R1,r1,w1⟩
 by_cases hr:recv h1 p1=true
 ·simp only[hr,if_true]at w1;refine⟨ty _ _ _ _ _ _ R1 r1 hr,F1,m1,ρ,h1,R.of s1 R1,(aB.bind w1).mono ?_⟩;rintro xs H2 ⟨F2,m2,h2,p2,s2,R2,r2,w2⟩;exact P F2 m2 h2 H2 x xs p1 p2 Q Ew R2 (s2.rep r1) r2 w2
 ·simp only[hr,if_false]at w1;exact w1.elim
theorem kd(F:Hp)(m:List Addr)(h:List PO)(H:Hp)(p:PV)(x:V)(R:RelH X.K T F m h H)(r:aF X.K T F m p x)(e:lj h p=true):Y7 X.K "str" x H:=by
 cases r with
 |str y=>rfl
 |_=>simp[lj]at e
theorem lK(F:Hp)(m:List Addr)(h:List PO)(H:Hp)(p:PV)(x:V)(R:RelH X.K T F m h H)(r:aF X.K T F m p x)(e:iT h p=true):Y7 X.K "list" x H:=by unfold iT at e;obtain⟨xs,ex⟩:=Option.isSome_iff_exists.mp e;obtain⟨a,vs,rfl,sq,_⟩:=fP R r ex;exact .inl ⟨rfl,vs,sq⟩
noncomputable def dI(sep:List Nat):List (List Nat)→List Nat
 |[]=>[]
 |[x]=>x
 |x::rest=>x++sep++dI sep rest
theorem JE(sep:List Nat):∀xs:List (List Nat),Txt.join (S sep) (xs.map S)=S (dI sep xs):=by
 have go:∀xs:List (List Nat),Str.join (S sep) (xs.map S)=S (dI sep xs):=by
  intro xs
  induction xs with
  |nil=>rfl
  |cons x r ih=>
   cases r with
   |nil=>rfl
   |cons y r=>have e:dI sep (x::y::r)=x++sep++dI sep (y::r):=rfl;rw[e,← oQ,← oQ,← ih];rfl
 intro xs;show Builtin.Str.glued _ _=_;rw[StrLaws.glued_eq_join];exact go xs
noncomputable def dS:List PV→Option (List (List Nat))
 |[]=>some []
 |.str l::r=>(dS r).map (l:: ·)
 |_::_=>none
theorem im:∀{ps:List PV}{ls:List (List Nat)},dS ps=some ls→ps=ls.map PV.str
 |[],ls,e=>by simp[dS]at e;subst e;rfl
 |p::r,ls,e=>by
  cases p with
  |str l=>simp only[dS,Option.map_eq_some_iff]at e;obtain⟨ls',e1,rfl⟩:=e;rw[im e1];rfl
  |_=>simp[dS]at e
theorem xN(ls:List (List Nat)):dS (ls.map PV.str)=some ls:=by
 induction ls with
 |nil=>rfl
 |cons l r ih=>simp[dS,ih]
theorem pX{K:W.Frag}{F:Hp}{m:List Addr}:∀{ls:List (List Nat)}{vs:List V},au K T F m (ls.map PV.str) vs→vs=(ls.map S).map V.str
 |[],_,.nil=>rfl
 |l::r,_,.cons h t=>by cases h;rw[pX t];rfl
def gK(p:PV)(ps:List PV)(h:List PO):Res PV:=match p,ps with
 |.str sep,[q]=>match Vh h q with
  |some xs=>match dS xs with
   |some ls=>if(ls.map (·.length)).sum+ls.length * sep.length≤16777216 then .ok (.str (dI sep ls)) h else .bad
   |none=>.bad
  |none=>.bad
 |_,_=>.bad
theorem eR{K:W.Frag}:Ck K T (FY K) gK:=by
 intro F m h H x xs p ps Q Ew R rp rs w;unfold gK at w
 split at w
 ·rename_i sep q
  cases rp
  obtain⟨y,rfl,ry⟩:=rs.one
  split at w
  ·rename_i zs ez
   split at w
   ·rename_i ls el
    split at w
    ·rename_i hz;obtain⟨a,vs,rfl,sq,rr⟩:=fP R ry ez;have e1:=im el;subst e1;rw[pX rr]at sq;refine⟨_,a,ls.map S,rfl,rfl,sq,?_,by rw[JE];exact aN w R (.str _)⟩
     have e2:(ls.map S).map (·.length)=ls.map (·.length):=by rw[List.map_map];apply List.map_congr_left;intro l _;exact fH l
     rw[e2,List.length_map,fH];exact hz
    ·exact w.elim
   ·exact w.elim
  ·exact w.elim
 ·exact w.elim
def cT(p:PV)(ps:List PV)(h:List PO):Res PV:=match ps with
 |[q]=>match qm h p with
  |some (i,xs)=>if xs.length<sizeLine then .ok .non (h.set i (.lst (xs++ [q])))else .bad
  |none=>.bad
 |_=>.bad
theorem er{K:W.Frag}:Ck K T wZ cT:=by
 intro F m h H x xs p ps Q Ew R rp rs w;unfold cT at w
 split at w
 ·obtain⟨y,rfl,ry⟩:=rs.one
  split at w
  ·rename_i i zs el
   split at w
   ·rename_i hz;obtain⟨a,vs,rfl,em,hF,hH,rr⟩:=qk R rp el;exact⟨a,vs,y,rfl,rfl,hH,by rw[← rr.length];exact hz,Az w R em hF hH (rr.append (.cons ry .nil)) .non⟩
   ·exact w.elim
  ·exact w.elim
 ·exact w.elim
end
structure sM(K:W.Frag)(T:Tab)(J:It)(xs:List PV)(F:Hp)(m:List Addr)(H:Hp):Prop where
 go:∀(i:Nat) F1 m1 h1 H1,aP F m H F1 m1 H1→RelH K T F1 m1 h1 H1→i<xs.length→J.go i H1
 XJ:∀(i:Nat) F1 m1 h1 H1 v H2,aP F m H F1 m1 H1→RelH K T F1 m1 h1 H1→i<xs.length→J.XJ i H1 v H2→∃F2 m2 p,aP F1 m1 H1 F2 m2 H2∧RelH K T F2 m2 h1 H2∧xs[i]? =some p∧aF K T F2 m2 p v
 stop:∀F1 m1 h1 H1,aP F m H F1 m1 H1→RelH K T F1 m1 h1 H1→J.stop xs.length H1
@[irreducible] def RI(X:Cx)(T:Tab)(Ew:XK)(tg e:Expr)(f:Ax):Prop:=PI X tg e (fun σ H R=>∃F m ρ h,gD X.K T F m ρ h σ H∧aB X.K T (fun F m xs J=>∀H,sM X.K T J xs F m H) F m H R Ew (f ρ h))
section
variable{K:W.Frag}{T:Tab}{F H:Hp}{m:List Addr}
theorem EL(lo:Int)(n:Nat):sM K T (Itr lo n) ((List.range n).map fun i=>PV.int (lo+(i:Nat))) F m H:=by
 refine⟨fun i F1 m1 h1 H1 s R hi=>by show i<n;simpa using hi,fun i F1 m1 h1 H1 v H2 s R hi y=>?_,fun F1 m1 h1 H1 s R=>by show n≤_;simp⟩;obtain⟨rfl,rfl⟩:=y;have Uy:i<n:=by simpa using hi
 exact⟨F1,m1,_,.refl,R,by simp[Uy],.int _⟩
theorem EK(l:List Nat):sM K T (Its (S l)) (l.map fun c=>PV.str [c]) F m H:=by
 refine⟨fun i F1 m1 h1 H1 s R hi=>by show i<(S l).cps.size;simpa[S]using hi,fun i F1 m1 h1 H1 v H2 s R hi y=>?_,fun F1 m1 h1 H1 s R=>by show _=(S l).cps.size;simp[S]⟩;obtain⟨rfl,c,hc,rfl⟩:=y;have Yn:l[i]? =some c:=by simpa[S]using hc
 exact⟨F1,m1,_,.refl,R,by simp[Yn],.str [c]⟩
theorem sf{a:Addr}{xs:List PV}{vs:List V}(e:O4 K F a vs)(r:au K T F m xs vs):sM K T (Itl K a) xs F m H:=by
 have at':∀{F1:Hp}{m1:List Addr}{h1:List PO}{H1:Hp},aP F m H F1 m1 H1→RelH K T F1 m1 h1 H1→O4 K H1 a vs:=fun s R=>R.same.seq (s.fz.seq e);refine⟨fun i F1 m1 h1 H1 s R hi=>?_,fun i F1 m1 h1 H1 v H2 s R hi y=>?_,fun F1 m1 h1 H1 s R=>⟨vs,at' s R,by rw[r.length];exact abl _⟩⟩
 ·rw[r.length]at hi;exact⟨vs,vs[i],at' s R,List.getElem?_eq_getElem hi⟩
 ·obtain⟨rfl,y⟩:=y;obtain⟨v',h1,h2⟩:=r.get (List.getElem?_eq_getElem hi);have:=y vs (at' s R);rw[h1]at this;cases this;exact⟨F1,m1,_,.refl,R,List.getElem?_eq_getElem hi,s.rep h2⟩
theorem EJ{a:Addr}{xs:List PV}{vs:List V}(e:PN K F a vs)(r:au K T F m xs vs):sM K T (Itt K a) xs F m H:=by
 have at':∀{F1:Hp}{m1:List Addr}{h1:List PO}{H1:Hp},aP F m H F1 m1 H1→RelH K T F1 m1 h1 H1→PN K H1 a vs:=fun s R=>R.same.QB (s.fz.QB e);refine⟨fun i F1 m1 h1 H1 s R hi=>?_,fun i F1 m1 h1 H1 v H2 s R hi y=>?_,fun F1 m1 h1 H1 s R=>⟨vs,at' s R,by rw[r.length];exact abl _⟩⟩
 ·rw[r.length]at hi;exact⟨vs,vs[i],at' s R,List.getElem?_eq_getElem hi⟩
 ·obtain⟨rfl,y⟩:=y;obtain⟨v',h1,h2⟩:=r.get (List.getElem?_eq_getElem hi);have:=y vs (at' s R);rw[h1]at this;cases this;exact⟨F1,m1,_,.refl,R,List.getElem?_eq_getElem hi,s.rep h2⟩
end
section
variable{X:Cx}{T:Tab}{Ew:XK}{tg a b:Expr}{fa fb:Ex}{pos p0:Pos}
def dP(f:Ax):Ax:=fun ρ h=>(f ρ h).bind fun ps h1=>match ps with
 |[.int j]=>if Ua 4611686018427387904 j=true then .ok ((List.range j.toNat).map fun i=>PV.int (0+(i:Nat))) h1 else .bad
 |_=>.bad
theorem cL{f:Ax}(hg:Gl X "range")(hm:X.mg "range"=none)(ha:RA X T Ew [a] f)(hs:starEach [a] X.env= [(false,eval a X.env)]:=by rfl):RI X T Ew tg (.Call (.Name "range" p0) [a] [] pos) (dP f):=by with_unfolding_all
 intro pins s σ H R I ⟨F,m,ρ,h,RR,p⟩;refine yo hg hm ha hs pins s σ H R I ⟨F,m,ρ,h,RR,(aB.bind p).mono ?_⟩;rintro xs H1 ⟨F1,m1,h1,ps,s1,R1,r1,w1⟩
 split at w1
 ·rename_i j;obtain⟨x,rfl,rx⟩:=r1.one
  cases rx
  split at w1
  ·rename_i hz;have hz':=fj.mp hz;exact⟨j,rfl,by omega,by omega,aB.here w1 R1 fun H=>EL 0 _⟩
  ·exact w1.elim
 ·exact w1.elim
def iS(p:PV)(h:List PO):Res (List PV):=match p with
 |.str l=>.ok (l.map fun c=>PV.str [c]) h
 |.tup xs=>.ok xs h
 |.lst xs=>.ok xs h
 |.Q8 xs=>.ok xs h
 |p=>match eL h p with
  |some (.lst xs,h2)=>.ok xs h2
  |_=>.bad
def mo(f:Ex):Ax:=fun ρ h=>(f ρ h).bind iS
theorem iA(ha:RE X T Ew a fa):RI X T Ew tg a (mo fa):=by with_unfolding_all
 intro pins s σ H R I ⟨F,m,ρ,h,RR,p⟩;unfold mo at p
 have lst:(∀p1 h1,fa ρ h=.ok p1 h1→(∀l,p1≠.str l)∧(∀l,p1≠.tup l))→wpAny (model X.prog X.w) X.A (eval a X.env) (fun v s1=>wpAny (model X.prog X.w) X.A (pyIter v) (PIE X pins σ tg R) X.xe s1) X.xe s:=fun hsh=>by
  refine Dx ha pins s σ H R I ⟨F,m,ρ,h,RR,?_⟩
  cases q:fa ρ h with
  |bad=>rw[q]at p;exact p
  |exc e h'=>rw[q]at p;exact p
  |ok p1 h1=>
   obtain⟨n1,n2⟩:=hsh p1 h1 q;rw[q]at p;intro F1 m1 H1 x s1 R1 r1;have w1:=aB.step s1 (show aB X.K T _ F m H R Ew (iS p1 h1)from p);unfold iS at w1
   split at w1
   ·exact absurd rfl (n1 _)
   ·exact absurd rfl (n2 _)
   ·cases r1 with
    |lst ef rr=>exact⟨_,rfl,⟨_,O4.of (R1.same _ _ ef)⟩,aB.here w1 R1 fun H=>sf (O4.of ef) rr⟩
   ·cases r1 with
    |Q8 ef rr=>exact⟨_,rfl,⟨_,R1.same.seq ef⟩,aB.here w1 R1 fun H=>sf ef rr⟩
   ·split at w1
    ·rename_i xs h2 ef;obtain⟨F2,s2,R2,r2,_⟩:=gq R1 r1 ef
     cases r2 with
     |lst ef rr=>exact⟨_,rfl,⟨_,O4.of (R2.same _ _ ef)⟩,w1 F2 m1 H1 _ s2 R2 fun H=>sf (O4.of ef) rr⟩
    ·exact w1.elim
 cases q:fa ρ h with
 |bad=>rw[q]at p;exact p.elim
 |exc e h'=>exact lst fun p1 h1 z=>by rw[q]at z;cases z
 |ok p1 h1=>
  by_cases Vy:∃l,p1=.str l
  ·obtain⟨l,rfl⟩:=Vy;refine Hq ha pins s σ H R I ⟨F,m,ρ,h,RR,?_⟩;rw[q]at p ⊢;intro F1 m1 H1 x s1 R1 r1;have w1:=aB.step s1 (show aB X.K T _ F m H R Ew (iS (.str l) h1)from p)
   cases r1
   exact⟨_,rfl,aB.here w1 R1 fun H=>EK l⟩
  ·by_cases VN:∃l,p1=.tup l
   ·obtain⟨l,rfl⟩:=VN;refine Ho ha pins s σ H R I ⟨F,m,ρ,h,RR,?_⟩;rw[q]at p ⊢;intro F1 m1 H1 x s1 R1 r1;have w1:=aB.step s1 (show aB X.K T _ F m H R Ew (iS (.tup l) h1)from p)
    cases r1 with
    |tup ef rr=>exact⟨_,rfl,⟨_,R1.same.QB ef⟩,aB.here w1 R1 fun H=>EJ ef rr⟩
   ·exact lst fun p2 h2 z=>by rw[q]at z;cases z;exact⟨fun l z=>Vy ⟨l,z⟩,fun l z=>VN ⟨l,z⟩⟩
noncomputable def ei(u_:List Nat)(ρ:Ev):Ev:=u_.map fun i=>(ρ[i]?).getD none
def cx(tt:Tx)(te:Ex)(cp:Ev):List PV→List PO→Res (List PV)
 |[],h=>.ok [] h
 |p::r,h=>(tt (some p::cp) h).bind fun b h1=>if b=true then(te (some p::cp) h1).bind fun v h2=>(cx tt te cp r h2).bind fun vs h3=>.ok (v::vs) h3 else cx tt te cp r h1
def fN(u_:List Nat)(it:Ax)(tt:Tx)(te:Ex):Ax:=fun ρ h=>(it ρ h).bind fun xs h1=>if xs.length<sizeLine then cx tt te (ei u_ ρ) xs h1 else .bad
@[irreducible] def Z8(X:Cx)(T:Tab)(Ew:XK)(ifs:List Expr)(f:Tx):Prop:=PFs X ifs (wT X T Ew f)
noncomputable def ft:Tx:=fun _ h=>.ok true h
theorem kl:Z8 X T Ew [] ft:=by with_unfolding_all exact(
  (by rintro pins s σ H Q I ⟨F,m,ρ,h,R,p⟩;exact Hv pins s σ H Q I (aB.here p R.toRelH rfl)))
theorem zT{c:Expr}{f:Tx}(h:RT X T Ew c f):Z8 X T Ew [c] f:=by with_unfolding_all exact(
  Hu h)
theorem lG.cap{K:W.Frag}{F:Hp}{m:List Addr}{ρ:Ev}{σ:St}(r:lG K T F m ρ σ)(u_:List Nat){p:PV}{v:V}(rp:aF K T F m p v):lG K T F m (some p::ei u_ ρ) (some v::gP u_ σ):=by
 refine⟨by simp[ei,gP],fun i q e=>?_⟩
 cases i with
 |zero=>simp at e;subst e;exact⟨v,rfl,rp⟩
 |succ j=>
  simp only[List.getElem?_cons_succ,ei,gP,List.getElem?_map]at e ⊢
  cases z:u_[j]? with
  |none=>rw[z]at e;simp at e
  |some k=>
   rw[z]at e;simp only[Option.map_some,Option.some.injEq]at e ⊢
   have e':ρ[k]? =some (some q):=by
    cases y:ρ[k]? with
    |none=>rw[y]at e;cases e
    |some o=>rw[y]at e;simpa using e
   obtain⟨u,h1,h2⟩:=r.2 k q e';exact⟨u,by rw[h1];rfl,h2⟩
theorem oM{u_:List Nat}{it:Ax}{tt:Tx}{te:Ex}{σ:St}{H:Hp}{Q:VK}{g:List PV→List PO→Res PV}(hg:∀F m h H ps vs,RelH X.K T F m h H→au X.K T F m ps vs→aB X.K T (aF X.K T) F m H Q Ew (g ps h)→∀D,H D=none→Q (.ref D) (upd H D (.lst vs)))
  (w:wE X T Ew (cN g (fN u_ it tt te)) σ H Q):zF u_ (fun σ H R=>∃F m ρ h,gD X.K T F m ρ h σ H∧aB X.K T (fun F m xs J=>∀H,sM X.K T J xs F m H) F m H R Ew (it ρ h)) (wT X T Ew tt) (wE X T Ew te) σ H Q:=by
 obtain⟨F,m,ρ,h,R,p⟩:=w
 have p0:aB X.K T (aF X.K T) F m H Q Ew ((it ρ h).bind fun xs h1=>(if xs.length<sizeLine then cx tt te (ei u_ ρ) xs h1 else .bad).bind g):=by
  have:(fN u_ it tt te ρ h).bind g=(it ρ h).bind fun xs h1=>(if xs.length<sizeLine then cx tt te (ei u_ ρ) xs h1 else .bad).bind g:=by
   unfold fN
   cases it ρ h<;>rfl
  rw[← this];exact p
 refine⟨F,m,ρ,h,R,(aB.bind p0).mono ?_⟩;rintro J H1 ⟨F1,m1,h1,xs,s1,R1,G,w1⟩
 by_cases hz:xs.length<sizeLine
 ·rw[if_pos hz]at w1
  refine⟨fun i n acc H2=>n=xs.length - i∧i≤xs.length∧acc.length≤i∧∃F2 m2 h2 as,aP F1 m1 H1 F2 m2 H2∧RelH X.K T F2 m2 h2 H2∧au X.K T F2 m2 as acc∧
   aB X.K T (aF X.K T) F2 m2 H2 Q Ew (((cx tt te (ei u_ ρ) (xs.drop i) h2).bind fun vs h3=>g (as++vs) h3)),⟨_,rfl,Nat.zero_le _,abl _,F1,m1,h1,[],.refl,R1,.nil,by simpa using w1⟩,?_⟩
  rintro i n acc H2 ⟨rfl,hi,hac,F2,m2,h2,as,s2,R2,ra,w2⟩
  rcases Nat.lt_or_ge i xs.length with U7|hge
  ·right
   refine⟨(G H1).go i F2 m2 h2 H2 s2 R2 U7,by omega,fun v H3 y=>?_⟩;obtain⟨F3,m3,p,s3,R3,ep,rp⟩:=(G H1).XJ i F2 m2 h2 H2 v H3 s2 R2 U7 y
   have ed:xs.drop i=p::xs.drop (i+1):=by rw[List.drop_eq_getElem_cons U7];rw[List.getElem?_eq_getElem U7,Option.some.injEq]at ep;rw[ep]
   rw[ed]at w2;have w3:=aB.step s3 w2;have eE:lG X.K T F3 m3 (some p::ei u_ ρ) (some v::gP u_ σ):=(s3.env (s2.env (s1.env R.env))).cap u_ rp
   have e0:((cx tt te (ei u_ ρ) (p::xs.drop (i+1)) h2).bind fun vs h3=>g (as++vs) h3)=(tt (some p::ei u_ ρ) h2).bind fun b h1=>
     if b=true then(te (some p::ei u_ ρ) h1).bind fun v h2=>(cx tt te (ei u_ ρ) (xs.drop (i+1)) h2).bind fun vs h3=>g (as++v::vs) h3 else(cx tt te (ei u_ ρ) (xs.drop (i+1)) h1).bind fun vs h3=>g (as++vs) h3:=by
    rw[cx]
    cases tt (some p::ei u_ ρ) h2 with
    |bad=>rfl
    |exc e h=>rfl
    |ok b h1=>
     cases b with
     |false=>rfl
     |true=>
      simp only[Res.Ov,if_true]
      cases te (some p::ei u_ ρ) h1 with
      |bad=>rfl
      |exc e h=>rfl
      |ok v h4=>
       simp only[Res.Ov]
       cases cx tt te (ei u_ ρ) (xs.drop (i+1)) h4<;>rfl
   rw[e0]at w3;refine⟨F3,m3,_,h2,⟨R3,eE⟩,(aB.bind w3).mono ?_⟩;rintro b H4 ⟨F4,m4,h4,b',s4,R4,eb,w4⟩
   cases eb
   have s24:aP F1 m1 H1 F4 m4 H4:=(s2.trans s3).trans s4
   cases b with
   |false=>refine yR ⟨xs.length - (i+1),by omega,rfl,by omega,by omega,F4,m4,h4,as,s24,R4,s4.reps (s3.reps ra),?_⟩;simpa using w4
   |true=>
    simp only[if_true]at w4;refine yQ ⟨F4,m4,_,h4,⟨R4,s4.env eE⟩,(aB.bind w4).mono ?_⟩;rintro y H5 ⟨F5,m5,h5,q,s5,R5,rq,w5⟩;refine⟨xs.length - (i+1),by omega,rfl,by omega,by rw[List.length_append];simp;omega,F5,m5,h5,as++ [q],s24.trans s5,R5,(s5.reps (s4.reps (s3.reps ra))).append (.cons rq .nil),?_⟩;have:(fun vs h3=>g (as++ [q]++vs) h3)=fun vs h3=>g (as++q::vs) h3:=by funext vs h3;simp
    rw[this];exact w5
  ·left
   have e:i=xs.length:=by omega
   subst e;refine⟨(G H1).stop F2 m2 h2 H2 s2 R2,fun D hD=>?_⟩;rw[List.drop_length]at w2;have w3:aB X.K T (aF X.K T) F2 m2 H2 Q Ew (g as h2):=by simpa[cx]using w2
   exact hg F2 m2 h2 H2 as acc R2 ra w3 D hD
 ·rw[if_neg hz]at w1;exact w1.elim
noncomputable def Wg(ps:List PV)(h:List PO):Res PV:=.ok (.lst ps) h
noncomputable def Ed(ps:List PV)(h:List PO):Res PV:=.ok (.ref h.length) (h++ [.lst ps])
theorem nk{elt iter:Expr}{x:Str}{px:Pos}{ifs:List Expr}{scope:Scope}{it:Ax}{tt:Tx}{te:Ex}{M:List Str}(u_:List Nat)(QG:X.calm=true)(S:dj X.N X.env.scope scope u_ x M)
  (hi:RI X T Ew (.Name x px) iter it) (ht:∀cl C ex s H,Z8 (eh X M scope cl C ex s H) T Ew ifs tt) (he:∀cl C ex s H,RE (eh X M scope cl C ex s H) T Ew elt te)
  (hs:∀y,foldedSetIterable iter X.env y=pure y:=by intro _;rfl):RE X T Ew (.ListComp elt [⟨.Name x px,iter,ifs,0⟩] scope pos) (cN Wg (fN u_ it tt te)):=by with_unfolding_all exact(
 PE.imp (DG (tt:=wT X T Ew tt) (te:=wE X T Ew te) u_ QG S hi ht he hs) fun σ H Q w=>oM (fun F m h H ps vs R r w D hD=>fB w R r D hD) w)
end
inductive SR where
 |nx (ρ:Ev) (h:List PO)|rt (v:PV) (h:List PO)|bk (ρ:Ev) (h:List PO)|ct (ρ:Ev) (h:List PO)|exc (e:PV) (h:List PO)|bad
abbrev Sx:=Ev→List PO→SR
def eN(K:W.Frag)(T:Tab)(F:Hp)(m:List Addr)(H:Hp)(D:mQ)(Ew:XK):SR→Prop
 |.nx ρ h=>∀F' m' H' σ',aP F m H F' m' H'→gD K T F' m' ρ h σ' H'→D.nx σ' H'
 |.bk ρ h=>∀F' m' H' σ',aP F m H F' m' H'→gD K T F' m' ρ h σ' H'→D.bk σ' H'
 |.ct ρ h=>∀F' m' H' σ',aP F m H F' m' H'→gD K T F' m' ρ h σ' H'→D.ct σ' H'
 |.rt v h=>∀F' m' H' x,aP F m H F' m' H'→RelH K T F' m' h H'→aF K T F' m' v x→D.rt x H'
 |.exc v h=>∀F' m' H' cls dx,aP F m H F' m' H'→RelH K T F' m' h H'→ky K T F' m' v cls dx→Ew cls dx H'
 |.bad=>False
theorem eN.step{K:W.Frag}{T:Tab}{F F1 H H1:Hp}{m m1:List Addr}{D:mQ}{Ew:XK}{r:SR}(s:aP F m H F1 m1 H1)(p:eN K T F m H D Ew r):eN K T F1 m1 H1 D Ew r:=by
 cases r with
 |nx ρ h=>exact fun F' m' H' x t=>p F' m' H' x (s.trans t)
 |bk ρ h=>exact fun F' m' H' x t=>p F' m' H' x (s.trans t)
 |ct ρ h=>exact fun F' m' H' x t=>p F' m' H' x (s.trans t)
 |rt v h=>exact fun F' m' H' x t=>p F' m' H' x (s.trans t)
 |exc v h=>exact fun F' m' H' c d t=>p F' m' H' c d (s.trans t)
 |bad=>exact p
section
variable(X:Cx)(T:Tab)(Ew:XK)
noncomputable def wS(f:Sx):TS:=fun D σ H=>∃F m ρ h,gD X.K T F m ρ h σ H∧eN X.K T F m H D Ew (f ρ h)
@[irreducible] def RS(st:Stmt)(f:Sx):Prop:=PS X st (wS X T Ew f)
@[irreducible] def Ud(st:List Stmt)(f:Sx):Prop:=Te X st (wS X T Ew f)
end
noncomputable def cU:Sx:=fun ρ h=>.nx ρ h
noncomputable def aI(f g:Sx):Sx:=fun ρ h=>match f ρ h with
 |.nx ρ1 h1=>g ρ1 h1
 |.rt v h1=>.rt v h1
 |.bk ρ1 h1=>.bk ρ1 h1
 |.ct ρ1 h1=>.ct ρ1 h1
 |.exc v h1=>.exc v h1
 |.bad=>.bad
noncomputable def dA(f:Res PV)(k:PV→List PO→SR):SR:=match f with
 |.ok v h=>k v h
 |.exc e h=>.exc e h
 |.bad=>.bad
noncomputable def BX(f:Res Bool)(k:Bool→List PO→SR):SR:=match f with
 |.ok v h=>k v h
 |.exc e h=>.exc e h
 |.bad=>.bad
noncomputable def Bk(f:Res (List PV))(k:List PV→List PO→SR):SR:=match f with
 |.ok v h=>k v h
 |.exc e h=>.exc e h
 |.bad=>.bad
noncomputable def bA(f:Ex):Sx:=fun ρ h=>dA (f ρ h) fun v h1=>.rt v h1
def cQ(f:Ex):Sx:=fun ρ h=>dA (f ρ h) fun _ h1=>.nx ρ h1
def Qc(t:Tx)(f g:Sx):Sx:=fun ρ h=>BX (t ρ h) fun b h1=>if b=true then f ρ h1 else g ρ h1
def ba(i:Nat)(f:Ex):Sx:=fun ρ h=>dA (f ρ h) fun v h1=>.nx (ρ.set i (some v)) h1
noncomputable def gc:Sx:=fun _ _=>.bad
section
variable{X:Cx}{T:Tab}{Ew:XK}{a b c:Expr}{fa fb:Ex}{pos:Pos}{st:Stmt}{rest:List Stmt}{f g:Sx}
theorem dZ{K:W.Frag}{F H:Hp}{m:List Addr}{D:mQ}{r:Res PV}{k:PV→List PO→SR}(p:eN K T F m H D Ew (dA r k)):aB K T (aF K T) F m H (fun x H1=>∃F1 m1 h1 a,aP F m H F1 m1 H1∧RelH K T F1 m1 h1 H1∧aF K T F1 m1 a x∧eN K T F1 m1 H1 D Ew (k a h1)) Ew r:=by
 cases r with
 |ok a h=>exact fun F' m' H' x s r q=>⟨F',m',h,a,s,r,q,eN.step s p⟩
 |exc e h=>exact p
 |bad=>exact p
theorem Hn{K:W.Frag}{F H:Hp}{m:List Addr}{D:mQ}{r:Res Bool}{k:Bool→List PO→SR}(p:eN K T F m H D Ew (BX r k)):aB K T RB F m H (fun x H1=>∃F1 m1 h1,aP F m H F1 m1 H1∧RelH K T F1 m1 h1 H1∧eN K T F1 m1 H1 D Ew (k x h1)) Ew r:=by
 cases r with
 |ok a h=>exact fun F' m' H' x s r q=>by cases q;exact⟨F',m',h,s,r,eN.step s p⟩
 |exc e h=>exact p
 |bad=>exact p
theorem Hm{K:W.Frag}{F H:Hp}{m:List Addr}{D:mQ}{β:Type}{RR:Hp→List Addr→List PV→β→Prop}{r:Res (List PV)}{k:List PV→List PO→SR}(p:eN K T F m H D Ew (Bk r k)):aB K T RR F m H (fun x H1=>∃F1 m1 h1 a,aP F m H F1 m1 H1∧RelH K T F1 m1 h1 H1∧RR F1 m1 a x∧eN K T F1 m1 H1 D Ew (k a h1)) Ew r:=by
 cases r with
 |ok a h=>exact fun F' m' H' x s r q=>⟨F',m',h,a,s,r,q,eN.step s p⟩
 |exc e h=>exact p
 |bad=>exact p
theorem aM:Ud X T Ew [] cU:=by with_unfolding_all exact(
  Te.imp Dl (by rintro D σ H ⟨F,m,ρ,h,R,p⟩;exact p F m H σ .refl R))
theorem aC(h:RS X T Ew st f):Ud X T Ew [st] f:=by with_unfolding_all exact(
  xc h)
theorem ah(h1:RS X T Ew st f)(h2:Ud X T Ew rest g):Ud X T Ew (st::rest) (aI f g):=by with_unfolding_all
 refine Te.imp (Am h1 h2) ?_;rintro D σ H ⟨F,m,ρ,h,R,p⟩;refine⟨F,m,ρ,h,R,?_⟩
 unfold aI at p
 cases q:f ρ h with
 |nx ρ1 h1=>rw[q]at p;exact fun F' m' H' σ' s R'=>⟨F',m',ρ1,h1,R',eN.step s p⟩
 |rt v h1=>rw[q]at p;exact p
 |bk v h1=>rw[q]at p;exact p
 |ct v h1=>rw[q]at p;exact p
 |exc v h1=>rw[q]at p;exact p
 |bad=>rw[q]at p;exact p
theorem eI:RS X T Ew st gc:=by with_unfolding_all exact(
  PS.imp An (by rintro D σ H ⟨F,m,ρ,h,R,p⟩;exact p.elim))
theorem GU(ha:RE X T Ew a fa):RS X T Ew (.Return (some a) pos) (bA fa):=by with_unfolding_all exact(
 PS.imp (Hj ha) (by rintro D σ H ⟨F,m,ρ,h,R,p⟩;exact ⟨F,m,ρ,h,R,(dZ p).mono (by rintro x H1 ⟨F1,m1,h1,v,s1,R1,r1,w1⟩;exact w1 F1 m1 H1 x .refl R1 r1)⟩))
theorem bN(ha:RE X T Ew a fa)(hs:swapsWith a none pos.line X.env=pure false:=by rfl):RS X T Ew (.Expr a pos) (cQ fa):=by with_unfolding_all exact(
 PS.imp (Do ha hs) (by rintro D σ H ⟨F,m,ρ,h,R,p⟩;exact ⟨F,m,ρ,h,R,(dZ p).mono (by rintro x H1 ⟨F1,m1,h1,v,s1,R1,r1,w1⟩;exact w1 F1 m1 H1 σ .refl (R.of s1 R1))⟩))
theorem bg{t:Tx}{sa sb:List Stmt}(hc:RT X T Ew c t)(ha:Ud X T Ew sa f)(hb:Ud X T Ew sb g):RS X T Ew (.If c sa sb pos) (Qc t f g):=by with_unfolding_all
 refine PS.imp (KK hc ha hb) ?_;rintro D σ H ⟨F,m,ρ,h,R,p⟩;refine⟨F,m,ρ,h,R,(Hn p).mono ?_⟩;rintro x H1 ⟨F1,m1,h1,s1,R1,w1⟩
 cases x with
 |true=>exact yQ ⟨F1,m1,ρ,h1,R.of s1 R1,w1⟩
 |false=>exact yR ⟨F1,m1,ρ,h1,R.of s1 R1,w1⟩
theorem lG.set{K:W.Frag}{F:Hp}{m:List Addr}{ρ:Ev}{σ:St}(r:lG K T F m ρ σ)(i:Nat){p:PV}{v:V}(rp:aF K T F m p v):lG K T F m (ρ.set i (some p)) (σ.set i (some v)):=by
 refine⟨by simp[r.1],fun j q e=>?_⟩
 by_cases hj:i=j
 ·subst hj
  have hi:i<ρ.length:=by
   rcases Nat.lt_or_ge i ρ.length with z|z
   ·exact z
   ·rw[List.getElem?_eq_none (by simpa using z)]at e;cases e
  rw[List.getElem?_set_self hi]at e
  cases e
  exact⟨v,List.getElem?_set_self (by rw[← r.1];exact hi),rp⟩
 ·rw[List.getElem?_set_ne hj]at e ⊢;exact r.2 j q e
theorem GT{i:Nat}{x:Str}{pos':Pos}(hN:X.N.Nodup)(hi:X.N[i]? =some x)(hx:Loc X.env.scope x)(ha:RE X T Ew a fa)(hs:swapsWith a (some (.Name x pos')) pos.line X.env=pure false:=by rfl)(hf:X.fn x=true∨X.env.scope.names.lookup x=some .local:=by first|exact .inl rfl|exact .inr rfl|assumption):
  RS X T Ew (.Assign [.Name x pos'] a pos) (ba i fa):=by with_unfolding_all exact(
 PS.imp (Hi hN hi hx ha hs hf) (by rintro D σ H ⟨F,m,ρ,h,R,p⟩;exact ⟨F,m,ρ,h,R,(dZ p).mono (by rintro v H1 ⟨F1,m1,h1,q,s1,R1,r1,w1⟩;exact w1 F1 m1 H1 _ .refl ⟨R1,(s1.env R.env).set i r1⟩)⟩))
abbrev Gx:=PV→Ev→Option Ev
@[irreducible] def RG(X:Cx)(T:Tab)(tg:Expr)(g:Gx):Prop:=PG X tg (fun v σ H Q=>∃F m ρ h p ρ',gD X.K T F m ρ h σ H∧aF X.K T F m p v∧g p ρ=some ρ'∧∀ σ',lG X.K T F m ρ' σ'→Q σ' H)
noncomputable def PL(i:Nat):Gx:=fun p ρ=>some (ρ.set i (some p))
theorem aU{i:Nat}{x:Str}{pos:Pos}(hN:X.N.Nodup)(hi:X.N[i]? =some x)(hx:Loc X.env.scope x)(hf:X.fn x=true∨X.env.scope.names.lookup x=some .local:=by first|exact .inl rfl|exact .inr rfl|assumption):RG X T (.Name x pos) (PL i):=by with_unfolding_all
 intro pins s σ H v u Q I r ⟨F,m,ρ,h,p,ρ',R,rp,e,q⟩
 cases e
 exact nz hN hi hx hf pins s σ H v u Q I r (q _ (R.env.set i rp))
noncomputable def bD(g:Gx)(body:Sx):List PV→Sx
 |[],ρ,h=>.nx ρ h
 |p::r,ρ,h=>match g p ρ with
  |some ρ1=>match body ρ1 h with
   |.nx ρ2 h2=>bD g body r ρ2 h2
   |.ct ρ2 h2=>bD g body r ρ2 h2
   |.bk ρ2 h2=>.nx ρ2 h2
   |.rt v h2=>.rt v h2
   |.exc v h2=>.exc v h2
   |.bad=>.bad
  |none=>.bad
def jc(it:Ax)(g:Gx)(body:Sx):Sx:=fun ρ h=>Bk (it ρ h) fun xs h1=>bD g body xs ρ h1
theorem dU{tg iter:Expr}{it:Ax}{g:Gx}{body:List Stmt}(hp:PassesOwn (model X.prog X.w) X.A X.env X.xe)(hc:X.calm=true)(hi:RI X T Ew tg iter it)(hg:RG X T tg g)(hb:Ud X T Ew body f)
  (hs:∀x,foldedSetIterable iter X.env x=pure x:=by intro _;rfl):RS X T Ew (.For tg iter body [] pos) (jc it g f):=by with_unfolding_all
 refine PS.imp (Hk hp hc hi hg hb hs) ?_;rintro D σ H ⟨F,m,ρ,h,R,p⟩;refine⟨F,m,ρ,h,R,(Hm p).mono ?_⟩;rintro J H1 ⟨F1,m1,h1,xs,s1,R1,G,w1⟩
 refine⟨fun i n σ2 H2=>n=xs.length - i∧i≤xs.length∧∃F2 m2 ρ2 h2,aP F1 m1 H1 F2 m2 H2∧gD X.K T F2 m2 ρ2 h2 σ2 H2∧eN X.K T F2 m2 H2 D Ew (bD g f (xs.drop i) ρ2 h2),⟨_,rfl,Nat.zero_le _,F1,m1,ρ,h1,.refl,R.of s1 R1,w1⟩,?_⟩
 rintro i n σ2 H2 ⟨rfl,Uy,F2,m2,ρ2,h2,s2,R2,w2⟩
 rcases Nat.lt_or_ge i xs.length with U7|hge
 ·right
  refine⟨(G H1).go i F2 m2 h2 H2 s2 R2.toRelH U7,fun σ' H'=>∃m',m'<xs.length - i∧m'=xs.length - (i+1)∧i+1≤xs.length∧∃F2 m2 ρ2 h2,aP F1 m1 H1 F2 m2 H'∧gD X.K T F2 m2 ρ2 h2 σ' H'∧eN X.K T F2 m2 H' D Ew (bD g f (xs.drop (i+1)) ρ2 h2),fun σ' H' q=>q,fun v H3 y=>?_⟩;obtain⟨F3,m3,p,s3,R3,ep,rp⟩:=(G H1).XJ i F2 m2 h2 H2 v H3 s2 R2.toRelH U7 y
  have ed:xs.drop i=p::xs.drop (i+1):=by rw[List.drop_eq_getElem_cons U7];rw[List.getElem?_eq_getElem U7,Option.some.injEq]at ep;rw[ep]
  rw[ed]at w2;have w3:=eN.step s3 w2;unfold bD at w3
  cases q:g p ρ2 with
  |none=>rw[q]at w3;exact w3.elim
  |some ρ3=>
   rw[q]at w3;dsimp only at w3;refine⟨F3,m3,ρ2,h2,p,ρ3,⟨R3,s3.env R2.env⟩,rp,q,fun σ3 r3=>⟨F3,m3,ρ3,h2,⟨R3,r3⟩,?_⟩⟩
   cases z:f ρ3 h2 with
   |nx ρ4 h4=>rw[z]at w3;exact fun F' m' H' σ' s' R'=>⟨xs.length - (i+1),by omega,rfl,by omega,F',m',ρ4,h4,(s2.trans s3).trans s',R',eN.step s' w3⟩
   |ct ρ4 h4=>rw[z]at w3;exact fun F' m' H' σ' s' R'=>⟨xs.length - (i+1),by omega,rfl,by omega,F',m',ρ4,h4,(s2.trans s3).trans s',R',eN.step s' w3⟩
   |bk ρ4 h4=>rw[z]at w3;exact w3
   |rt v4 h4=>rw[z]at w3;exact w3
   |exc v4 h4=>rw[z]at w3;exact w3
   |bad=>rw[z]at w3;exact w3
 ·left
  have e:i=xs.length:=by omega
  subst e;rw[List.drop_length]at w2;exact⟨(G H1).stop F2 m2 h2 H2 s2 R2.toRelH,w2 F2 m2 H2 σ2 .refl R2⟩
end
inductive Out where
 |ok (v:PV)|bad
def dJ(v:PV)(h:List PO):Out:=match eL h v with
 |some (q,_)=>.ok q
 |none=>.bad
def aJ(f:Sx)(np n:Nat)(ps:List PV):Out:=if ps.length=np then match f (ps.map some++List.replicate (n - ps.length) none) []with
  |.nx _ _=>.ok .non
  |.rt v h=>dJ v h
  |_=>.bad
 else .bad
noncomputable def WT(K:W.Frag)(T:Tab)(np:Nat)(fn:List PV→Out):Sp:=fun vs H Q _=>∃F ps v,ps.length=np∧cA F H∧au K T F [] ps vs∧fn ps=.ok v∧
 ∀F' H' x,cA F F'→cA H H'→cA F' H'→(∀a o,F' a=some o→F a=some o∨H a=none)→aF K T F' [] v x→Q x H'
theorem CN{K:W.Frag}{T:Tab}{np:Nat}{fn:List PV→Out}{vs:List V}{H:Hp}{Q:VK}{E:XK}(h:WT K T np fn vs H Q E):vs.length=np:=by obtain⟨F,ps,v,e,_,r,_⟩:=h;rw[← r.length];exact e
section
variable{P:Program}{w:World}{K:W.Frag}{mg:Str→Option Value}{base:Heap}{T:Tab}
theorem xX{N:List Str}{F:Hp}{ps:List PV}{vs:List V}(r:au K T F [] ps vs):lG K T F [] (ps.map some++List.replicate (N.length - ps.length) none) (fL N vs):=by
 unfold L2.fL;have hl:=r.length;refine⟨by simp[hl],fun i p e=>?_⟩;rcases Nat.lt_or_ge i ps.length with hi|hi
 ·rw[List.getElem?_append_left (by simpa using hi),List.getElem?_map]at e
  cases q:ps[i]? with
  |none=>rw[q]at e;cases e
  |some p'=>
   rw[q]at e
   cases e
   obtain⟨v,h1,h2⟩:=r.get q;exact⟨v,by rw[List.getElem?_append_left (by simp;omega),List.getElem?_map,h1];rfl,h2⟩
 ·rw[List.getElem?_append_right (by simpa using hi)]at e;rw[List.getElem?_replicate]at e
  split at e<;>cases e
theorem EU{x qual:Str}{st:Stmt}{f:Addr}{fd:FuncData}{N ps:List Str}{k:Nat}{g:Sx}(Fn:Vp K x qual st f fd)(Sc:dQ N ps (aG st))
  (hb:∀(E_:Value)(A:Around)(outer:List Env)(s:Shared)(H:Hp)(E:XK),aY k (A.deeper (envOfC qual (aG st) s.heap.objs.size f E_))→
   Ud (iW QX P w K mg base N qual (aG st) f E_ A outer s H E).Xu T (fun _ _ _=>False) (bV st) g):
  bK P w K mg base QX (k+1) f fd ps (WT K T ps.length (aJ g ps.length N.length)):=by with_unfolding_all
 refine Fn.ok Sc (fun vs H Q E h=>CN h) fun E_ A outer s H vs Q E hr h=>⟨_,hb E_ A outer s H E hr,?_⟩
 obtain⟨F,qs,v,hl,sm,r,e,q⟩:=h;have R0:gD K T F [] (qs.map some++List.replicate (N.length - qs.length) none) [] (fL N vs) H:=⟨⟨sm,rfl,fun i o a h1 h2=>by simp at h1,List.nodup_nil⟩,xX r⟩
 refine⟨F,[],_,[],R0,?_⟩;unfold aJ at e;rw[if_pos hl]at e;have Xp:∀{F' m' H'},aP F [] H F' m' H'→cA H H':=fun s b o hb=>s.fr b o hb (by simp)
 have fin:∀{F' m' H' h' p x},aP F [] H F' m' H'→RelH K T F' m' h' H'→aF K T F' m' p x→dJ p h'=.ok v→Q x H':=by
  intro F' m' H' h' p x s R rp ef;unfold dJ at ef
  cases z:eL h' p with
  |none=>rw[z]at ef;cases ef
  |some ab=>
   obtain⟨p2,h2⟩:=ab;rw[z]at ef
   cases ef
   obtain⟨F2,s2,R2,r2,hp⟩:=gq R rp z;refine q F2 H' x (s.fz.trans s2.fz) (Xp s) R2.same (fun a o ea=>?_) (r2.H_ hp);rcases(s.trans s2).S_ a o ea with z|z|z
   ·exact .inl z
   ·exact .inr z
   ·simp at z
 cases z:g (qs.map some++List.replicate (N.length - qs.length) none) []with
 |nx ρ h1=>
  rw[z]at e
  cases e
  exact fun F' m' H' σ' s R=>q F' H' .non s.fz (Xp s) R.same (fun a o ea=>by
   rcases s.S_ a o ea with z|z|z
   ·exact .inl z
   ·exact .inr z
   ·simp at z) .non
 |rt p h1=>rw[z]at e;exact fun F' m' H' x s R rp=>fin s R rp e
 |bk _ _=>rw[z]at e;cases e
 |ct _ _=>rw[z]at e;cases e
 |exc _ _=>rw[z]at e;cases e
 |bad=>rw[z]at e;cases e
end
def bR(fn:List PV→Out)(ps:List PV)(h:List PO):Res PV:=match M7 ps h with
 |some (qs,h2)=>match fn qs with
  |.ok v=>.ok v h2
  |.bad=>.bad
 |none=>.bad
def bu(fn:List PV→Out)(as:Ax):Ex:=fun ρ h=>(as ρ h).bind (bR fn)
section
variable{X:Cx}{T:Tab}{Ew:XK}{a b e:Expr}{es:List Expr}{fa fb:Ex}{fs:Ax}{pos p0:Pos}{k:Nat}{f:Addr}{fd:FuncData}{ps:List Str}{fn:List PV→Out}{x:Str}
theorem qL{F H:Hp}{m:List Addr}{h:List PO}{Q:VK}{K:W.Frag}{np:Nat}{qs:List PV}{vs:List V}{E:XK}(Ri:∀qs v,fn qs=.ok v→qs.length=np)(R:RelH K T F m h H)(r:au K T F m qs vs)(w:aB K T (aF K T) F m H Q Ew (bR fn qs h)):WT K T np fn vs H Q E:=by
 unfold bR at w
 cases z:M7 qs h with
 |none=>rw[z]at w;exact w.elim
 |some ab=>
  obtain⟨q2,h2⟩:=ab;rw[z]at w;dsimp only at w;obtain⟨F2,s2,R2,r2,hp⟩:=uE R r z
  cases y:fn q2 with
  |bad=>rw[y]at w;exact w.elim
  |ok v=>
   rw[y]at w;refine⟨F2,q2,v,Ri _ _ y,R2.same,r2.H_ hp,y,fun F' H' x a1 a2 a3 a4 rx=>?_⟩;have s3:aP F2 m H F' m H':=⟨a1,⟨[],by simp⟩,fun b o hb _=>a2 b o hb,fun b o hb=>⟨o,a2 b o hb⟩,fun i a hi e=>(by rw[List.getElem?_eq_none hi]at e;cases e),fun a o ea=>(a4 a o ea).elim .inl (fun z=>.inr (.inl z))⟩
   refine w F' m H' x (s2.trans s3) ⟨a3,R2.len,fun i o a e1 e2=>?_,R2.nd⟩ (rx.mono (cA.refl _) fun i a e=>by simp at e);have q:=R2.obj i o a e1 e2
   have live:F2 a=none→(∃u,H a=some u)→F' a=none:=fun n ⟨u,hu⟩=>by
    cases z:F' a with
    |none=>rfl
    |some o=>
     rcases a4 a o z with y|y
     ·rw[n]at y;cases y
     ·rw[hu]at y;cases y
   cases o with
   |lst xs=>obtain⟨f0,ws,z,rr⟩:=q;exact⟨live f0 ⟨_,z⟩,ws,a2 _ _ z,s3.reps rr⟩
   |dct xs=>obtain⟨f0,ws,z,kk,rr⟩:=q;exact⟨live f0 ⟨_,z⟩,ws,a2 _ _ z,kk,s3.reps rr⟩
   |G7 p'=>obtain⟨r1,r3,o,r4⟩:=q;exact⟨s3.rep r1,r3,o,a1 _ _ r4⟩
   |obj C fs=>obtain⟨f0,ws,⟨Ca,dx,cu,z,d⟩,kk,rr⟩:=q;exact⟨live f0 ⟨_,z⟩,ws,⟨Ca,dx,cu,a2 _ _ z,a1 _ _ d⟩,kk,s3.reps rr⟩
theorem De(F:bK X.prog X.w X.K X.mg X.base QX k f fd ps (WT X.K T ps.length fn))(Ri:∀qs v,fn qs=.ok v→qs.length=ps.length)(hr:aY k X.A)(hg:Gl X x)(hm:X.mg x=some (.ref f))(hk:W.keepIn X.K (.ref f)=true)(hb:bC X.K fd ps [])
  (ha:RA X T Ew (e::es) fs) (PJ:nD0 x:=by decide)(he:sE0 X e es:=by rfl) (J3:sP0 X es pos:=by rfl):
  RE X T Ew (.Call (.Name x p0) (e::es) [] pos) (bu fn fs):=by with_unfolding_all
 refine PE.imp (rQ F hr hg hm hk hb .nil Gc ha PJ he J3) ?_;rintro σ H Q ⟨F,m,ρ,h,R,p⟩;refine⟨F,m,ρ,h,R,(aB.bind p).mono ?_⟩;rintro vs H1 ⟨F1,m1,h1,qs,s1,R1,r1,w1⟩
 rw[List.append_nil];exact qL Ri R1 r1 w1
theorem aO{f:Sx}{np n:Nat}:∀qs v,aJ f np n qs=.ok v→qs.length=np:=fun qs v h=>by
 unfold aJ at h
 split at h
 ·assumption
 ·cases h
structure oR(X:Cx)(T:Tab)(k:Nat)(m:Str)(C:Addr)(np:Nat)(fn:List PV→Out):Prop where
 c:Cls X.K C
 ex:∃(f:Addr)(fd:FuncData)(ps:List Str),ps.length=np∧eF X.K C m f∧bK X.prog X.w X.K X.mg X.base QX k f fd ps (WT X.K T np fn)∧bC X.K fd ps []
 len:∀qs v,fn qs=.ok v→qs.length=np
theorem AJ{k:Nat}{m:Str}{o:Expr}{ta:TE}{t:TA}{apos:Pos}{pl:Sem Bool}(he:PE X o ta)(hr:aY k X.A)(ha:PA X (e::es) t)
  (Rh:sE0 X e es:=by rfl) (J3:sP0 X es pos:=by rfl)
  (ht:eval (.Call (.Attribute o m apos) (e::es) [] pos) X.env=(do
   let ov ← eval o X.env
   standAt apos.atName
   let(f,first) ← holding [ov] (getMethod ov m pl)
   callWith pos f first (backTo pos (starEach (e::es) X.env)) (backToKw pos (keywordEach [] X.env))):=by rfl):
  PE X (.Call (.Attribute o m apos) (e::es) [] pos) (fun σ H Q=>ta σ H fun x H1=>∃a C dx fs np fn,x=.ref a∧H1 a=some (.ins C dx fs)∧fs.lookup m=none∧oR X T k m C np fn∧t σ H1 fun vs H2=>WT X.K T np fn (x::vs) H2 Q E0):=by
 intro pins s σ H Q I h;refine W.methodCall_KW (pl:=pl) (G4 (he pins s σ H _ I h) ?_) ht;rintro u s1 ⟨x,H1,I1,rx,a,C,dx,fs,np,fn,ex,ea,l,M,q⟩;subst ex;obtain rfl:u=Value.ref a:=rx;obtain⟨f,fd,ps,hl,hm,F,hb⟩:=M.ex;refine gn I1 ea M.c hm l ?_;refine W.callWith_K (first:=[.ref a]) (h₀:=X.base) I.ok.mod.Sd hm.kp (G4 (ha pos pins s1 σ H1 _ I1 q) fun us s2 ⟨vs,H2,I2,r,q2⟩=>⟨I2.Qj,?_⟩) Rh J3;exact rB (us:=.ref a::us) (vs:=.ref a::vs) (Rj:=[]) F hr hb .nil Gc I2 (.cons rfl r) (by rw[List.append_nil];exact q2)
def qO(res:Nat→Option (List PV→Out))(o:Ex)(as:Ax):Ex:=fun ρ h=>(o ρ h).bind fun p h1=>match p with
 |.ins C []=>match res C with
  |some fn=>(as ρ h1).bind fun ps h2=>bR fn (.ins C []::ps) h2
  |none=>.bad
 |_=>.bad
theorem nj{res:Nat→Option (List PV→Out)}{m:Str}{o:Expr}{fo:Ex}{apos:Pos}{pl:Sem Bool}(abq:∀C fn,res C=some fn→∀a,T C=some a→∃np,oR X T k m a np fn)(ho:RE X T Ew o fo)(hr:aY k X.A)(ha:RA X T Ew (e::es) fs)
  (Rh:sE0 X e es:=by rfl) (J3:sP0 X es pos:=by rfl)
  (ht:eval (.Call (.Attribute o m apos) (e::es) [] pos) X.env=(do
   let ov ← eval o X.env
   standAt apos.atName
   let(f,first) ← holding [ov] (getMethod ov m pl)
   callWith pos f first (backTo pos (starEach (e::es) X.env)) (backToKw pos (keywordEach [] X.env))):=by rfl):
  RE X T Ew (.Call (.Attribute o m apos) (e::es) [] pos) (qO res fo fs):=by with_unfolding_all
 refine PE.imp (AJ (T:=T) ho hr ha Rh J3 ht) ?_;rintro σ H Q ⟨F,m',ρ,h,R,p⟩;refine⟨F,m',ρ,h,R,(aB.bind p).mono ?_⟩;rintro x H1 ⟨F1,m1,h1,p1,s1,R1,r1,w1⟩
 cases r1 with
 |@ins C fs a Ca dx Xz c ef d kk rr=>
  cases fs with
  |cons _ _=>exact w1.elim
  |nil=>
   have hf:Xz= []:=by cases Xz with
    |nil=>rfl
    |cons _ _=>simp at kk
   subst hf;dsimp only at w1
   cases z:res C with
   |none=>rw[z]at w1;exact w1.elim
   |some fn=>rw[z]at w1;obtain⟨np,M⟩:=abq C fn z Ca c;refine⟨a,Ca,dx,[],np,fn,rfl,R1.same _ _ ef,rfl,M,F1,m1,ρ,h1,R.of s1 R1,(aB.bind w1).mono ?_⟩;rintro vs H2 ⟨F2,m2,h2,qs,s2,R2,r2,w2⟩;exact qL M.len R2 (.cons (s2.rep (.ins c ef d kk rr)) r2) w2
 |_=>exact w1.elim
theorem xT{pins:List (Addr×Obj)}{σ:St}{H:Hp}{s:Shared}{Q:VK}{C:Addr}(hm:W.makesIn X.K C=true)(hi:W.findIn X.K (.ref C) "__init__"=some (some (.builtin "object.__init__")))(I:Inv X pins σ H s)
  (h:∀x dx,H x=none→H dx=none→dx≠x→Q (.ref x) (upd (upd H dx (.own x)) x (.ins C dx []))):wpAny (model X.prog X.w) X.A (call (.ref C) []) (EP X pins σ Q) X.xe s:=by
 have hq:=h (s.heap.objs.size+1) s.heap.objs.size (I.hok.fresh (Nat.le_succ _)) (I.hok.fresh (abl _)) (Nat.ne_of_lt (Nat.lt_succ_self _));have I2:=Inv.made (C:=C) I
 have e2:((s.heap.push W.emptyDict).push (W.instObj C s.heap.objs.size)).get? (s.heap.objs.size+1)=some (W.instObj C s.heap.objs.size):=by
  have:=Heap.get?_push_size (s.heap.push W.emptyDict) (o:=W.instObj C s.heap.objs.size) rfl
  rwa [Heap.size_push]at this
 have Y:=W.makes_of (M:=model X.prog X.w) I.Qj hm;have t1:W.Looks (model X.prog X.w) ((s.heap.push W.emptyDict).push (W.instObj C s.heap.objs.size)) (typeOf (.ref (s.heap.objs.size+1))) (.ref C):=(W.Looks.ld e2).andThen .now;have t2:W.Looks (model X.prog X.w) ((s.heap.push W.emptyDict).push (W.instObj C s.heap.objs.size)) (isInstance (.ref (s.heap.objs.size+1)) (.type "object")) true:=t1.andThen (Y.top.keeps fun b o e=>Heap.get?_push_of_some _ (Heap.get?_push_of_some _ e));refine wpAny_call (yH I.Qj hm hi (fun self=>W.Looks.of_pure (W.oi_bind self)) ?_);refine codeAny_call_builtin W.oi_plain W.entry_oi (@W.check_slot (model X.prog X.w) _ _ _ "object.__init__" "object" "__init__" (.ref (s.heap.objs.size+1)) [] [] _ W.oi_kind W.oi_split t2 (W.oi_args (.ref (s.heap.objs.size+1))) ?_);rw[W.oi_run];exact wpAny_pure (And.intro rfl ⟨.ref (s.heap.objs.size+1),_,I2,rfl,hq⟩)
noncomputable def uR(C:Nat):Ex:=fun _ h=>.ok (.ins C []) h
theorem tH{Cn:Nat}{C:Addr}(hT:T Cn=some C)(hm:W.makesIn X.K C=true)(hi:W.findIn X.K (.ref C) "__init__"=some (some (.builtin "object.__init__")))(hk:W.keepIn X.K (.ref C)=true)(hg:Gl X x)(hx:X.mg x=some (.ref C))
  (PJ:nD0 x:=by decide):RE X T Ew (.Call (.Name x p0) [] [] pos) (uR Cn):=by with_unfolding_all
 intro pins s σ H Q I ⟨F,m,ρ,h,R,p⟩;refine wpAny_Call_Name_kw (jJ I hg hx ?_ PJ);refine W.callWith_K0 I.Qj hk (xT hm hi I fun x dx nx ndx ne=>?_);obtain⟨s1,R1⟩:=aP.lay (o:=.own x) R.toRelH ndx;obtain⟨s2,R2⟩:=aP.lay (p:=x) (o:=.ins C dx []) R1 (by rw[aj (fun z=>ne z.symm)];exact nx);exact p _ m _ _ (s1.trans s2) R2 (.ins hT aA (by rw[aj ne,aA]) rfl .nil)
theorem nZ{u:Value}{l:List Nat}(hg:Gl X x)(hm:X.mg x=some u)(r:aQ (.str (S l)) u)(hd:nD0 x:=by decide):RE X T Ew (.Name x pos) (cK (.str l)):=by with_unfolding_all exact(
  fy (rP hg hm r hd) fun _ _=>.str l)
theorem gh{u:Value}{i:Int}(hg:Gl X x)(hm:X.mg x=some u)(r:aQ (.int i) u)(hd:nD0 x:=by decide):RE X T Ew (.Name x pos) (cK (.int i)):=by with_unfolding_all exact(
  fy (rP hg hm r hd) fun _ _=>.int i)
end
noncomputable def br(kvs:List (PK×PV))(k:PK)(v:PV):List (PK×PV):=
 if(kvs.any fun kv=>decide (kv.1=k))=true then kvs.map (fun kv=>if kv.1=k then(kv.1,v)else kv)else kvs++ [(k,v)]
section
variable{K:W.Frag}{T:Tab}{F H:Hp}{m:List Addr}
def fR(K:W.Frag)(T:Tab)(F:Hp)(m:List Addr)(kps:List (PK×PV))(kvs:List (Key×V)):Prop:=kvs.map (·.1)=kps.map (fun p=>tk p.1)∧au K T F m (kps.map (·.2)) (kvs.map (·.2))
theorem fR.nil:fR K T F m [] []:=⟨rfl,.nil⟩
theorem fR.any(k:PK):∀{kps:List (PK×PV)}{kvs:List (Key×V)},kvs.map (·.1)=kps.map (fun p=>tk p.1)→(kvs.any fun kv=>decide (kv.1=tk k))=kps.any fun kv=>decide (kv.1=k)
 |[],[],_=>rfl
 |[],_::_,h=>by simp at h
 |_::_,[],h=>by simp at h
 |(k1,p1)::kps,(k2,v2)::kvs,h=>by
  simp only[List.map_cons,List.cons.injEq]at h;rw[List.any_cons,List.any_cons,fR.any k h.2]
  congr 1
  rw[h.1]
  by_cases e:k1=k
  ·subst e;simp
  ·have:¬ tk k1=tk k:=fun z=>e (vm z);simp[e,this]
theorem fR.repl{k:PK}{p:PV}{v:V}(r:aF K T F m p v):∀{kps:List (PK×PV)}{kvs:List (Key×V)},fR K T F m kps kvs→fR K T F m (kps.map fun kv=>if kv.1=k then(kv.1,p)else kv) (kvs.map fun kv=>if kv.1=tk k then(kv.1,v)else kv)
 |[],[],_=>.nil
 |[],_::_,h=>by have:=h.1;simp at this
 |_::_,[],h=>by have:=h.1;simp at this
 |(k1,p1)::kps,(k2,v2)::kvs,⟨h1,h2⟩=>by
  simp only[List.map_cons,List.cons.injEq]at h1 h2
  cases h2 with
  |cons a b=>
   obtain⟨i1,i2⟩:=fR.repl (k:=k) r (kps:=kps) (kvs:=kvs) ⟨h1.2,b⟩;simp only[List.map_cons]
   by_cases e:k1=k
   ·subst e;rw[if_pos h1.1,if_pos rfl];exact⟨by simp only[List.map_cons,h1.1,i1],.cons r i2⟩
   ·have e2:¬ k2=tk k:=fun z=>e (vm (h1.1.symm.trans z));rw[if_neg e2,if_neg e];exact⟨by simp only[List.map_cons,h1.1,i1],.cons a i2⟩
theorem fR.put{k:PK}{p:PV}{v:V}{kps:List (PK×PV)}{kvs:List (Key×V)}(h:fR K T F m kps kvs)(r:aF K T F m p v):fR K T F m (br kps k p) (iE kvs (tk k) v):=by
 unfold br iE;rw[fR.any k h.1]
 split
 ·exact h.repl r
 ·exact⟨by rw[List.map_append,List.map_append,h.1];rfl,by rw[List.map_append,List.map_append];exact h.2.append (.cons r .nil)⟩
theorem fR.merge:∀{more:List (PK×PV)}{mv:List (Key×V)}{kps:List (PK×PV)}{kvs:List (Key×V)},fR K T F m more mv→fR K T F m kps kvs→fR K T F m (more.foldl (fun acc kv=>br acc kv.1 kv.2) kps) (gl kvs mv)
 |[],[],_,_,_,h=>h
 |[],_::_,_,_,h,_=>by have:=h.1;simp at this
 |_::_,[],_,_,h,_=>by have:=h.1;simp at this
 |(k1,p1)::more,(k2,v2)::mv,kps,kvs,⟨h1,h2⟩,h=>by
  simp only[List.map_cons,List.cons.injEq]at h1 h2
  cases h2 with
  |cons a b=>show fR K T F m (more.foldl _ (br kps k1 p1)) (gl (iE kvs k2 v2) mv);rw[h1.1];exact fR.merge ⟨h1.2,b⟩ (h.put a)
end
def gQ:List (Ex×Ex)→Ev→List PO→Res (List (PK×PV))
 |[],_,h=>.ok [] h
 |(a,b)::r,ρ,h=>(a ρ h).bind fun x h1=>(b ρ h1).bind fun y h2=>match kZ x with
  |some k=>(gQ r ρ h2).bind fun ps h3=>.ok ((k,y)::ps) h3
  |none=>.bad
def mkD(ps:List (PK×PV)):List (PK×PV):=ps.foldl (fun acc kv=>br acc kv.1 kv.2) []
def gM(fs:List (Ex×Ex)):Ex:=fun ρ h=>(gQ fs ρ h).bind fun ps h1=>.ok (.dct (mkD ps)) h1
@[irreducible] def Z6(X:Cx)(T:Tab)(Ew:XK)(pos:Pos)(keys:List (Option Expr))(values:List Expr)(fs:List (Ex×Ex)):Prop:=Z_ X pos keys values (fs.map fun p=>(wE X T Ew p.1,wE X T Ew p.2))
section
variable{X:Cx}{T:Tab}{Ew:XK}{a b k v o e f:Expr}{fa fb fo:Ex}{pos apos O2:Pos}{keys:List (Option Expr)}{values:List Expr}{fs:List (Ex×Ex)}
theorem kL:Z6 X T Ew pos [] [] []:=by with_unfolding_all exact(
  Dt)
theorem gf(hk:RE X T Ew k fa)(hv:RE X T Ew v fb)(hr:Z6 X T Ew pos keys values fs):Z6 X T Ew pos (some k::keys) (v::values) ((fa,fb)::fs):=by with_unfolding_all exact(
  Ay hk hv hr)
theorem qd{σ:St}{ρ:Ev}:∀(fs:List (Ex×Ex)){F:Hp}{m:List Addr}{h:List PO}{H:Hp}{Q:List (V×V)→Hp→Prop},gD X.K T F m ρ h σ H→
  aB X.K T (fun F m ps vs=>∃kvs:List (Key×V),vs=kvs.map (fun kv=>(kV kv.1,kv.2))∧fR X.K T F m ps kvs) F m H Q Ew (gQ fs ρ h)→qX (fs.map fun p=>(wE X T Ew p.1,wE X T Ew p.2)) σ H Q
 |[],F,m,h,H,Q,R,p=>aB.here p R.toRelH ⟨[],rfl,.nil⟩
 |(fa,fb)::fs,F,m,h,H,Q,R,p=>by
  refine⟨F,m,ρ,h,R,(aB.bind p).mono ?_⟩;rintro x H1 ⟨F1,m1,h1,px,s1,R1,r1,w1⟩;refine⟨F1,m1,ρ,h1,R.of s1 R1,(aB.bind w1).mono ?_⟩;rintro y H2 ⟨F2,m2,h2,py,s2,R2,r2,w2⟩
  cases q:kZ px with
  |none=>rw[q]at w2;exact w2.elim
  |some kk=>rw[q]at w2;refine qd fs ((R.of s1 R1).of s2 R2) ((aB.bind w2).mono ?_);rintro vs H3 ⟨F3,m3,h3,ps,s3,R3,⟨kvs,e3,r3⟩,w3⟩;subst e3;have ex:=jK (s2.rep r1) q;subst ex;exact aB.here w3 R3 ⟨(tk kk,y)::kvs,rfl,by simp only[List.map_cons,r3.1],.cons (s3.rep r2) r3.2⟩
theorem ky.mono{K:W.Frag}{T:Tab}{F F':Hp}{m m':List Addr}{e:PV}{cls:Value}{dx:Option Addr}(h:ky K T F m e cls dx)(hF:cA F F')(hm:∀(i:Nat)(a:Addr),m[i]? =some a→m'[i]? =some a):ky K T F' m' e cls dx:=by
 unfold ky at h ⊢
 split at h
 ·exact h
 ·obtain⟨Ca,d,y,h1,h2,h3,h4,h5⟩:=h;exact⟨Ca,d,y,h1,h2,h3,hF _ _ h4,h5.mono hF hm⟩
 ·exact h.elim
theorem ss{F F2 H H2:Hp}{m m2:List Addr}{p:Addr}{o u:HO}{h2:List PO}(R:∀a o,F a=some o→H a=some o)(hp:H p=none)(s:aP F m (upd H p o) F2 m2 H2)(R2:RelH X.K T F2 m2 h2 H2)(hm:p∉m):H2 p=some o∧F2 p=none∧p∉m2∧
  aP F m H (upd F2 p u) m2 (upd H2 p u)∧RelH X.K T (upd F2 p u) m2 h2 (upd H2 p u):=by
 have e1:H2 p=some o:=s.fr p o aA hm
 have hF:F p=none:=by
  cases q:F p with
  |none=>rfl
  |some z=>rw[R p z q]at hp;cases hp
 have e2:F2 p=none:=by
  cases q:F2 p with
  |none=>rfl
  |some z=>
   rcases s.S_ p z q with y|y|y
   ·rw[hF]at y;cases y
   ·rw[aA]at y;cases y
   ·exact absurd y hm
 have e3:p∉m2:=fun z=>by
  rcases s.mem z with y|y
  ·exact hm y
  ·rw[aA]at y;cases y
 have sF:cA F2 (upd F2 p u):=fx e2 u;refine⟨e1,e2,e3,⟨s.fz.trans sF,s.pre,fun b z hb n=>?_,fun b z hb=>?_,fun i a hi ea=>?_,fun a z ea=>?_⟩,⟨fun b z hb=>?_,R2.len,fun i ob a h1 VN=>?_,R2.nd⟩⟩
 ·have U8:b≠p:=ar hb hp;rw[aj U8];exact s.fr b z (by rw[aj U8];exact hb) n
 ·have U8:b≠p:=ar hb hp;obtain⟨z',ez⟩:=s.dom b z (by rw[aj U8];exact hb);exact⟨z',by rw[aj U8];exact ez⟩
 ·have q:=s.new i a hi ea;have U8:a≠p:=fun z=>by rw[z,aA]at q;cases q
  rw[aj U8]at q;exact q
 ·by_cases ha:a=p
  ·subst ha;exact .inr (.inl hp)
  ·rw[aj ha]at ea;rcases s.S_ a z ea with y|y|y
   ·exact .inl y
   ·rw[aj ha]at y;exact .inr (.inl y)
   ·exact .inr (.inr y)
 ·by_cases ha:b=p
  ·subst ha;rw[aA]at hb ⊢;exact hb
  ·rw[aj ha]at hb ⊢;exact R2.same b z hb
 ·have Vx:a≠p:=fun z=>e3 (by rw[← z];exact List.mem_of_getElem? VN);have q:=R2.obj i ob a h1 VN
  cases ob with
  |lst xs=>obtain⟨f0,ws,z,rr⟩:=q;exact⟨by rw[aj Vx];exact f0,ws,by rw[aj Vx];exact z,rr.mono sF fun _ _ h=>h⟩
  |dct xs=>obtain⟨f0,ws,z,kk,rr⟩:=q;exact⟨by rw[aj Vx];exact f0,ws,by rw[aj Vx];exact z,kk,rr.mono sF fun _ _ h=>h⟩
  |G7 p'=>obtain⟨r1,r3,o,r4⟩:=q;exact⟨r1.mono sF fun _ _ h=>h,r3,o,sF _ _ r4⟩
  |obj C fs=>obtain⟨f0,ws,⟨Ca,dx,cu,z,d⟩,kk,rr⟩:=q;exact⟨by rw[aj Vx];exact f0,ws,⟨Ca,dx,cu,by rw[aj Vx];exact z,sF _ _ d⟩,kk,rr.mono sF fun _ _ h=>h⟩
theorem RelH.fresh{K:W.Frag}{F H:Hp}{m:List Addr}{h:List PO}(R:RelH K T F m h H){p:Addr}(hp:H p=none):p∉m:=fun z=>by
 obtain⟨i,e⟩:=List.mem_iff_getElem?.mp z
 have hi:i<h.length:=by
  rw[R.len];rcases Nat.lt_or_ge i m.length with q|q
  ·exact q
  ·rw[List.getElem?_eq_none q]at e;cases e
 have q:=R.obj i _ p (List.getElem?_eq_getElem hi) e
 cases ho:h[i]with
 |lst xs=>rw[ho]at q;obtain⟨_,vs,z,_⟩:=q;rw[hp]at z;cases z
 |dct xs=>rw[ho]at q;obtain⟨_,vs,z,_⟩:=q;rw[hp]at z;cases z
 |G7 xs=>rw[ho]at q;obtain⟨_,_,o,z⟩:=q;rw[R.same _ _ z]at hp;cases hp
 |obj C fs=>rw[ho]at q;obtain⟨_,_,⟨_,_,_,z,_⟩,_⟩:=q;rw[hp]at z;cases z
theorem zU{F H:Hp}{m:List Addr}{ρ:Ev}{h:List PO}{σ:St}(R:gD X.K T F m ρ h σ H){p:Addr}(hp:H p=none)(o:HO):gD X.K T F m ρ h σ (upd H p o):=by
 have hm:=R.toRelH.fresh hp;refine⟨⟨fun b u e=>?_,R.len,fun i ob a h1 h2=>?_,R.nd⟩,R.env⟩
 ·rw[aj (ar (R.same _ _ e) hp)];exact R.same b u e
 ·have Vx:a≠p:=fun z=>hm (by rw[← z];exact List.mem_of_getElem? h2);have q:=R.obj i ob a h1 h2
  cases ob with
  |lst xs=>obtain⟨f0,ws,z,rr⟩:=q;exact⟨f0,ws,by rw[aj Vx];exact z,rr⟩
  |dct xs=>obtain⟨f0,ws,z,kk,rr⟩:=q;exact⟨f0,ws,by rw[aj Vx];exact z,kk,rr⟩
  |G7 p'=>exact q
  |obj C fs=>obtain⟨f0,ws,⟨Ca,dx,cu,z,d⟩,kk,rr⟩:=q;exact⟨f0,ws,⟨Ca,dx,cu,by rw[aj Vx];exact z,d⟩,kk,rr⟩
theorem Dd(h:Z6 X T Ew pos keys values fs)(Vm:keys.all (·.isSome)=true)(hl:keys.length=values.length)(h0:keys≠ [])(YQ:keys.length≤15)(ZM:fs.length=keys.length):RE X T Ew (.Dict keys values pos) (gM fs):=by with_unfolding_all
 refine PE.imp (Gb (DF h Vm hl h0 YQ)) ?_;rintro σ H Q ⟨F,m,ρ,hh,R,p⟩ pp hp;have hm:=R.toRelH.fresh hp;have R':=zU R hp (.dK [])
 have K3:∀{fs:List (Ex×Ex)} {h ps h'},gQ fs ρ h=.ok ps h'→ps.length=fs.length:=by
  intro fs
  induction fs with
  |nil=>intro h ps h' e;simp[gQ]at e;rw[e.1];rfl
  |cons x r ih=>
   intro h ps h' e;obtain⟨fa,fb⟩:=x;simp only[gQ]at e
   cases q1:fa ρ h with
   |bad=>rw[q1]at e;cases e
   |exc _ _=>rw[q1]at e;cases e
   |ok x1 h1=>
    rw[q1]at e;simp only[Res.Ov]at e
    cases q2:fb ρ h1 with
    |bad=>rw[q2]at e;cases e
    |exc _ _=>rw[q2]at e;cases e
    |ok y1 h2=>
     rw[q2]at e;simp only[Res.Ov]at e
     cases q3:kZ x1 with
     |none=>rw[q3]at e;cases e
     |some kk=>
      rw[q3]at e;dsimp only at e
      cases q4:gQ r ρ h2 with
      |bad=>rw[q4]at e;cases e
      |exc _ _=>rw[q4]at e;cases e
      |ok ps3 h3=>
       rw[q4]at e
       cases e
       simp[ih q4]
 unfold gM at p;refine qd fs R' ?_
 cases q:gQ fs ρ hh with
 |bad=>rw[q]at p;exact p
 |exc e1 h1=>
  rw[q]at p;intro F2 m2 H2 x dx s2 R2 rx;obtain⟨e1,e2,e3,s3,R3⟩:=ss (u:=.dK []) R.same hp s2 R2 hm
  have hs:upd H2 pp (.dK [])=H2:=by
   funext b
   by_cases hb:b=pp
   ·subst hb;rw[aA,e1]
   ·rw[aj hb]
  rw[hs]at s3 R3;exact p _ m2 H2 x dx s3 R3 (rx.mono (fx e2 _) fun _ _ h=>h)
 |ok ps h1=>
  rw[q]at p;intro F2 m2 H2 vs s2 R2 ⟨kvs,ev,rk⟩;obtain⟨e1,e2,e3,_,_⟩:=ss (u:=.dK (gl [] kvs)) R.same hp s2 R2 hm;have hkl:kvs.length=ps.length:=by have:=congrArg List.length rk.1;simpa using this
  refine⟨e1,kvs,ev,by rw[hkl,K3 q,ZM];exact YQ,?_⟩;have rm:fR X.K T F2 m2 (mkD ps) (gl [] kvs):=fR.merge rk .nil;refine .inr ⟨pp,_,aA,fun o=>?_⟩;rw[wI];obtain⟨_,_,_,s3,R3⟩:=ss (u:=.Rx o (.dK (gl [] kvs))) R.same hp s2 R2 hm;have sF:cA F2 (upd F2 pp (.Rx o (.dK (gl [] kvs)))):=fx e2 _;exact p _ m2 _ _ s3 R3 (.dct aA rm.1 (rm.2.mono sF fun _ _ h=>h))
theorem Dr{K:W.Frag}{T:Tab}:dN K T (fun x y H Q=>y=.non∧Q (.bl (decide (x=.non))) H) pIs:=by
 intro F m h H x y p q Q Ew R rp rq w;unfold pIs at w
 split at w
 ·cases rq;exact⟨rfl,by rw[yT rp];exact aN w R (.bl _)⟩
 ·exact w.elim
end
def sH(g g':PV→PV→List PO→Res PV)(a b c:Ex):Ex:=fun ρ h=>(a ρ h).bind fun x h1=>(b ρ h1).bind fun y h2=>(g x y h2).bind fun z h3=>match z with
 |.bl k=>if k=true then(c ρ h3).bind fun u h4=>g' y u h4 else .ok (.bl false) h3
 |_=>.bad
section
variable{X:Cx}{T:Tab}{Ew:XK}{a b c:Expr}{fa fb fc:Ex}{pos:Pos}{op X6:CmpOp}{r r':R2}{g g':PV→PV→List PO→Res PV}
theorem Fp(P:dN X.K T r g)(P':dN X.K T r' g'){σ:St}{H:Hp}{Q:VK}(w:wE X T Ew (sH g g' fa fb fc) σ H Q):zG r r' (wE X T Ew fa) (wE X T Ew fb) (wE X T Ew fc) σ H Q:=by
 obtain⟨F,m,ρ,h,R,p⟩:=w;refine⟨F,m,ρ,h,R,(aB.bind p).mono ?_⟩;rintro x H1 ⟨F1,m1,h1,px,s1,R1,r1,w1⟩;refine⟨F1,m1,ρ,h1,R.of s1 R1,(aB.bind w1).mono ?_⟩;rintro y H2 ⟨F2,m2,h2,py,s2,R2,r2,w2⟩;refine P F2 m2 h2 H2 x y px py _ Ew R2 (s2.rep r1) r2 ((aB.bind (R:=aF X.K T) w2).mono ?_);rintro z H3 ⟨F3,m3,h3,pz,s3,R3,r3,w3⟩
 cases r3 with
 |bl k=>
  refine⟨k,rfl,?_⟩
  cases k with
  |false=>exact yR (aB.here w3 R3 (.bl _))
  |true=>refine yQ ⟨F3,m3,ρ,h3,((R.of s1 R1).of s2 R2).of s3 R3,(aB.bind w3).mono ?_⟩;rintro u H4 ⟨F4,m4,h4,pu,s4,R4,r4,w4⟩;exact P' F4 m4 h4 H4 y u py pu Q Ew R4 (s4.rep (s3.rep r2)) r4 w4
 |_=>exact w3.elim
theorem zN(ho:Pa X (compareOp op) r)(P:dN X.K T r g)(T6:Pa X (compareOp X6) r')(P':dN X.K T r' g')(ha:RE X T Ew a fa)(hb:RE X T Ew b fb)(hc:RE X T Ew c fc)(hm:lastMarks [op,X6] [b,c]=false:=by with_unfolding_all rfl):RT X T Ew (.Compare a [op,X6] [b,c] pos) (bI (sH g g' fa fb fc)):=by with_unfolding_all
 refine PT.imp (Al ho T6 ha hb hc hm) ?_;rintro σ H Q ⟨F,m,ρ,h,R,p⟩
 have p':=(aB.bind (R:=aF X.K T) p).mono (Q':=fun x H1=>∃k,x=.bl k∧Q k H1) fun x H1 ⟨F1,m1,h1,p1,s1,R1,r1,w1⟩=>by
  cases r1 with
  |bl k=>exact⟨k,rfl,aB.here w1 R1 rfl⟩
  |_=>exact w1.elim
 exact Fp P P' ⟨F,m,ρ,h,R,p'⟩
end
noncomputable def wR(K:W.Frag):Sp:=fun vs H Q _=>∃(a:Addr)(ns:List Int),vs= [.ref a]∧O4 K H a (ns.map V.int)∧ns.length≤63∧∀H',Q (.bl true) H'
theorem pY{K:W.Frag}{T:Tab}{F:Hp}{m:List Addr}:∀ns:List Int,au K T F m (ns.map PV.int) (ns.map V.int)
 |[]=>.nil
 |n::r=>.cons (.int n) (pY r)
theorem xP{K:W.Frag}{T:Tab}{fn:List PV→Out}(h:∀ns:List Int,ns.length≤63→fn [.Q8 (ns.map PV.int)]=.ok (.bl true)):∀vs H Q E,wR K vs H Q E→WT K T 1 fn vs H Q E:=by
 rintro vs H Q E ⟨a,ns,rfl,sq,hl,q⟩
 refine⟨fun b=>if b=a then H a else none,[.Q8 (ns.map PV.int)],.bl true,rfl,fun b o e=>?_,.cons (.Q8 ?_ (pY ns)) .nil,h ns hl,fun F' H' x _ _ _ _ r=>?_⟩
 ·by_cases hb:b=a
  ·subst hb;have e':H b=some o:=by simpa using e
   exact e'
  ·have e':(none:Option HO)=some o:=by simpa[hb]using e
   cases e'
 ·rcases sq with(sq|⟨o,sq⟩)|sq
  ·exact .inl (.inl (by simpa using sq))
  ·exact .inl (.inr ⟨o,by simpa using sq⟩)
  ·exact .inr sq
 ·cases r;exact q H'
theorem Bg{l:W.OpenLaw}{k:Nat}{q:Program}{loose:List Str}{XP:(Str→Option Value)→Heap→Prop}{YP:World→Heap→Prop}{d:DefRec}{K:Params→W.Frag}{x:Str}(hn:l.most=some 63)(ZQ:d.params.defaults= [])(hr:aY k callerA)
  (hY:∀(w:World)(h:Heap),YP w h→(K w.params).In h)
  (F:∀(w:World)(mg:Str→Option Value)(fa:Addr)(h:Heap),(K w.params).In h→h.Ns mainGlobals mg→mg d.name=some (.ref fa)→
   ∃fd:FuncData,(∀(s:Shared)(u:Value),BindsTo s fd ⟨[u],[]⟩ [(x,u)])∧∀base:Heap,(K w.params).In base→base.Ns mainGlobals mg→bK l.prog w (K w.params) mg base QX k fa fd [x] (wR (K w.params))):
  W.WalkO q loose XP YP l.row.toRowW d [] (fun f vs=>PySem.call f vs):=
 L2.Cy (n:=63) (k:=k) (x:=x) (CX:=fun _=>QX) (sp:=fun w=>wR (K w.params)) hn (by decide) ZQ hr hY F (fun _ _ a ns hl _ hS=>⟨a,ns,rfl,hS,hl,fun _=>rfl⟩) fun _ _ _ _ _ z=>z
end L3
namespace L2
open PySem PySem.Spec PyProof.Rows
end L2
namespace L3
open PySem PySem.Spec PyProof.Rows L2
end L3
namespace L2
open PySem PySem.Spec PyProof.Rows PySem.Builtin PySem.Builtin.Str
end L2
namespace L3
open PySem PySem.Spec PyProof.Rows L2
section
variable{X:Cx}{T:Tab}{Ew:XK}{pos p0:Pos}
noncomputable def okR(d:PyData):Bool:=d.canLay0&&decide (d.depth≤60)&&d.showable&&!d.hasDict&&decide (d.shown.length≤sizeLine)
def Mi(K:W.Frag)(a:Addr)(ls:List (List Nat)):Prop:=∃(o:Obj)(its:Array Value)(n:Nat),K.lookup a=some o∧o.cls=.type "tuple"∧o.data=.seq its n∧its.size≤sizeLine∧aL (ls.map fun l=>V.str (S l)) its.toList
theorem wY{K:W.Frag}{F:Hp}{m:List Addr}:∀ls:List (List Nat),au K T F m (ls.map PV.str) (ls.map fun l=>V.str (S l))
 |[]=>.nil
 |l::r=>.cons (.str l) (wY r)
theorem zY{x:Str}{a:Addr}{ls:List (List Nat)}(hg:Gl X x)(hm:X.mg x=some (.ref a))(g:Mi X.K a ls)(hd:nD0 x:=by decide):RE X T Ew (.Name x pos) (cK (.tup (ls.map PV.str))):=by with_unfolding_all exact(
  fy (rP (v:=.ref a) hg hm rfl hd) fun _ _=>.tup (.inr g) (wY ls))
end
end L3
namespace L2
open PySem PySem.Spec PyProof.Rows PySem.Builtin
abbrev gV(b:Bool):Obj:={ cls:=.type "set",dict:=none,data:=.set #[] 0 (.fresh 0 0 b) }
section
variable{κ:Type} [DecidableEq κ]
noncomputable def mO(σ:List κ)(k:κ):List κ:=if k∈σ then σ else σ++[k]
def cj(f:Nat→κ):Nat→List κ
 |0=> []
 |n+1=>mO (cj f n) (f n)
theorem ui{σ:List κ}{k x:κ}:x∈mO σ k↔x∈σ∨x=k:=by
 unfold mO
 split
 ·rename_i h;exact⟨.inl,fun z=>z.elim id fun e=>e▸h⟩
 ·rw[List.mem_append,List.mem_singleton]
theorem uj(σ:List κ)(k:κ):(mO σ k).length=if k∈σ then σ.length else σ.length+1:=by
 unfold mO
 split
 ·rfl
 ·rw[List.length_append,List.length_singleton]
theorem md(f:Nat→κ)(n:Nat):(cj f n).length≤n:=by
 induction n with
 |zero=>exact abl _
 |succ n ih=>
  show(mO _ _).length≤_;rw[uj]
  split<;>omega
abbrev inK(σ:List κ)(k:κ):Bool:=decide (k∈σ)
end
section
variable{P:Program}{w:World}{A:Around}{R:Result→Shared→Prop}{it:Addr}{fp wr:List Addr}{G:Array GenState→Array GenState→Prop}{n:Nat}{Pn:Nat→Value→Prop}{St:Nat→Shared→Prop}
theorem tq{h h':Heap}{a:Addr}{f:Str→Bool}{c:Nat}(e:∀o,h.get? a=some o→h'.get? a=some o)(z:h.SetOf (strKind P w) a f c):h'.SetOf (strKind P w) a f c:=by obtain⟨o,es,ep,t,q,rest⟩:=z;exact⟨o,es,ep,t,e o q,rest⟩
theorem tu(W:WalksS P w A.in1 it fp wr G n Pn St)(a:Addr)(out:a∉fp)(f:Nat→Str)(txt:∀i v,Pn i v→∃t,v=.str (f i) t)(few:n+1<scanBound)(r:Nat):
  ∀(i:Nat)(s:Shared),i+r=n→St i s→s.heap.SetOf (strKind P w) a (inK (cj f i)) (cj f i).length→
   (∀s',Moved (a::wr) G s s'→s'.heap.SetOf (strKind P w) a (inK (cj f n)) (cj f n).length→R (.ok (.ret .none)) s')→
   codeAny (model P w) A (.builtin "set.update.loop" ⟨[.ref a,.ref it],[]⟩) R s:=by
 have aw:a∉wr:=fun z=>out (W.sub _ z);have tl:∀b∈wr,b∈a::wr:=fun _ z=>List.mem_cons_of_mem _ z
 induction r with
 |zero=>intro i s e st so k;obtain rfl:i=n:=e;apply codeAny_builtin F.entry_set_update_loop;rw[Around.under_plainId F.plain_set_update_loop _];apply wpAny_bind (m:=pyNext (.ref it));exact W.done s _ _ st fun s' mv=>wpAny_pure (k s' (mv.mono tl) (tq (fun o q=>mv.heap a o aw q) so))
 |succ r ih=>
  intro i s e st so k;apply codeAny_builtin F.entry_set_update_loop;rw[Around.under_plainId F.plain_set_update_loop _];apply wpAny_bind (m:=pyNext (.ref it));refine W.item i s _ _ (by omega) st fun v s' hv Ug mv=>?_;obtain⟨t,rfl⟩:=txt i v hv;have so':=tq (h':=s'.heap) (fun o q=>mv.heap a o aw q) so;apply wpAny_bind (m:=holding [Value.str (f i) t] (setAdd a (.str (f i) t)));apply wpAny_holding;unfold setAdd;apply wpAny_holding;apply wpAny_bind;apply (strKind P w).pyHash (strKind_is P w (f i) t);have room:=md f i;refine wpAny_setAddHashed_of (knd:=strKind P w) (strKind_is _ _ _ _) rfl so' (by omega) fun h' sb so2=>wpAny_pure ⟨plainId_quiet F.plain_set_update_loop _,?_⟩;have other:∀b,b≠a→∀o,s'.heap.get? b=some o→h'.get? b=some o:=fun b ne o q=>(sb.2 b ne).trans q
  have next:h'.SetOf (strKind P w) a (inK (cj f (i+1))) (cj f (i+1)).length:=by
   refine SetOf_congr so2 (fun x=>?_) ?_
   ·rw[Bool.eq_iff_iff,Bool.or_eq_true,decide_eq_true_eq,decide_eq_true_eq,decide_eq_true_eq];exact ui.symm
   ·show _=(mO _ _).length;rw[uj];simp only[decide_eq_true_eq]
  refine ih (i+1) _ (by omega) (W.frame _ s' _ _ Ug (Nat.le_succ _) fun b hb o q=>other b (fun z=>out (z▸hb)) o q) next fun s2 mv2 so3=>k s2 ?_ so3;exact Moved.trans W.gtrans ((mv.mono tl).then_heap (Nat.le_succ _) fun b o hb q=>other b (fun z=>hb (z▸List.mem_cons_self)) o q) mv2
end
section
variable{P:Program}{w:World}{A:Around}{E:Value→Shared→Prop}{s:Shared}
theorem wL{zs:List Str}{us:List Value}(r:aL (zs.map V.str) us)(i:Nat)(v:Value)(e:us[i]? =some v):∃t,v=.str (zs.getD i Str.empty) t:=by
 induction zs generalizing us i with
 |nil=>cases r;simp at e
 |cons z q ih=>
  cases r with
  |cons h t=>
   obtain⟨k,rfl⟩:=h
   cases i with
   |zero=>simp at e;exact⟨k,e.symm⟩
   |succ i=>exact ih t i (by simpa using e)
abbrev sL(P:Program)(w:World)(s:Shared)(a:Addr)(zs:List Str)(n:Nat)(h':Heap):Prop:=
 h'.SetOf (strKind P w) a (inK (cj (fun i=>zs.getD i Str.empty) n)) (cj (fun i=>zs.getD i Str.empty) n).length∧∀b o,b<a→s.heap.get? b=some o→h'.get? b=some o
theorem zJ{b:Bool}{l:Addr}{its:Array Value}{zs:List Str}(hh:A.handled=none)(hl:s.heap.IsList l its)(r:aL (zs.map V.str) its.toList)(few:its.size+1<scanBound):
  codeAny (model P w) A (.call (.builtin "set.__init__") ⟨[.ref s.heap.objs.size,.ref l],[]⟩)
   (wants (fun u s2=>u=.none∧∃h' tk,s2= { s with heap:=h',toks:=tk }∧sL P w s s.heap.objs.size zs its.size h') E) { s with heap:=s.heap.push (gV b) }:=by
 have Td:(s.heap.push (gV b)).get? s.heap.objs.size=some (gV b):=Heap.get?_push_size _ rfl;refine codeAny_call_builtin F.called_set.init.plain F.entry_set_init (check_set_init_1 ⟨_,Td,rfl⟩ ?_);obtain⟨⟨oc,od,Zk,S6⟩,q,c1,c,c2⟩:=hl
 cases c1
 cases c2
 have q':(s.heap.push (gV b)).get? l=some { cls:=.type "list",dict:=od,data:=.seq its c,slots:=S6 }:=Heap.get?_push_of_some _ q;have n1:=F.sub_list_set;have n2:=F.sub_list_frozenset;have n3:(Value.type "list"==Value.type "dict")=false:=by decide
 have ll:l<s.heap.objs.size:=Heap.lt_size q;have Zv:(s.heap.push (gV b)).IsList l its:=⟨_,q',rfl,c,rfl⟩
 unfold Builtin.«set.__init__» noKeywords Builtin.Frozenset.updateFrom;generalize gi:pyIter=iter
 wp_walk
 subst gi;apply wpAny_pyIter_list Zv;refine wpAny_bind<|wpAny_runValue ?_
 have sz:(s.heap.push (gV b)).objs.size=s.heap.objs.size+1:=Heap.size_push _ _
 have ne1:l≠(s.heap.push (gV b)).objs.size:=fun z=>by rw[sz]at z;exact Nat.lt_irrefl _ (Nat.lt_trans (z▸ll) (Nat.lt_succ_self _))
 have out:s.heap.objs.size∉ [(s.heap.push (gV b)).objs.size,l]:=by
  intro z;rcases List.mem_cons.mp z with z|z
  ·rw[sz]at z;exact Nat.ne_of_lt (Nat.lt_succ_self _) z
  ·exact Nat.ne_of_gt ll (List.mem_singleton.mp z)
 have W:=(Walks.list (prog:=P) (w:=w) (A:=A.in1.in1) (by simp[hh]) _ l ne1 its).toS;refine tu W s.heap.objs.size out (fun i=>zs.getD i Str.empty) (fun i v z=>wL r i v (by rw[Array.getElem?_toList];exact z)) few its.size 0 _ (Nat.zero_add _) ?_ ?_ ?_
 ·exact⟨⟨_,Heap.get?_push_size _ rfl,rfl,rfl⟩,Zv.push _⟩
 ·exact SetOf_congr ((setObjOf_fresh (knd:=strKind P w) b).setOf (Heap.get?_push_of_some _ Td) (by decide)) (fun _=>rfl) rfl
 ·rintro⟨h',g',d',t',o'⟩ mv so
  obtain rfl:g'=s.gens:=mv.gens;obtain rfl:d'=s.drawn:=mv.drawn;obtain rfl:o'=s.os:=mv.os;apply wpAny_pure;refine wpAny_pure ⟨rfl,h',t',rfl,so,fun x o hx e=>mv.heap x o (fun z=>?_) (Heap.get?_push_of_some _ (Heap.get?_push_of_some _ e))⟩;rcases List.mem_cons.mp z with z|z
  ·exact Nat.ne_of_lt hx z
  ·have z:=List.mem_singleton.mp z;rw[sz]at z;exact Nat.ne_of_lt (Nat.lt_succ_of_lt hx) z
theorem rh{l:Addr}{its:Array Value}{zs:List Str}{Q:Value→Shared→Prop}(hh:A.handled=none)(hl:s.heap.IsList l its)(r:aL (zs.map V.str) its.toList)(few:its.size+1<scanBound)
  (k:∀(h':Heap)(tk:Nat),sL P w s s.heap.objs.size zs its.size h'→Q (.ref s.heap.objs.size) { s with heap:=h',toks:=tk }):wpAny (model P w) A (call (.type "set") [.ref l]) Q E s:=by
 have C:=F.called_set;obtain⟨_,_,c1⟩:=C.mro;have c2:=C.made;have c3:=C.sub;have c4:=C.notType;have c5:=C.canCreate;have c6:=F.typeCall_set_1 (.ref l);have c7:=C.init.lookup;have c8:=C.init.bind (.ref s.heap.objs.size);apply wpAny_call;apply codeAny_of_tree;show wpAny _ _ (callAny (.type "set") ⟨[.ref l],[]⟩) _ _ _;apply wpAny_pure;refine And.intro (Code.quiet_builtin _ (by decide+kernel))<|codeAny_builtin F.entry_type_call ?_
 rw[Around.under_plain (weight_type_call_type "set" [.ref l] []) rfl]
 repeat any_goals first|assumption|wp_step
 refine codeAny_mono (R:=wants (fun o s1=>∃b:Bool,o=.ref s.heap.objs.size∧s1= { s with heap:=s.heap.push (gV b) }) E) (code_set_new_1 _ fun b=>⟨b,rfl,rfl⟩) fun res s1 z=>?_;rcases res with e|(o|_|_|_)<;>first|exact z|exact z.elim|skip
 obtain⟨b,rfl,rfl⟩:=z;have isS:Shared.TypeIs { s with heap:=s.heap.push (gV b) } (.ref s.heap.objs.size) "set":=⟨_,Heap.get?_push_size _ rfl,rfl⟩
 repeat any_goals first|assumption|wp_step
 refine codeAny_mono (zJ (E:=E) (by simp[hh]) hl r few) fun X5 s2 z2=>?_;rcases X5 with e|(o|_|_|_)<;>first|exact z2|exact z2.elim|skip
 obtain⟨rfl,h',tk,rfl,fin⟩:=z2
 repeat any_goals first|assumption|wp_step
 exact k h' tk fin
end
section
variable{X:Cx}{e:Expr}{te:TE}{p1 p2 pos pos2:Pos}
theorem yr(hc:X.calm=true)(g1:Gl X "len")(m1:X.mg "len"=none)(g2:Gl X "set")(m2:X.mg "set"=none)(he:PE X e te)
  (hs:starEach [e] X.env=(false,eval e X.env)::starEach [] X.env:=by rfl) (VL:starEach [.Call (.Name "set" p2) [e] [] pos2] X.env=(false,eval (.Call (.Name "set" p2) [e] [] pos2) X.env)::starEach [] X.env:=by rfl)
  (hp:(backTo pos (starEach [] X.env)).any (·.1)=false:=by rfl) (WY:(backTo pos2 (starEach [] X.env)).any (·.1)=false:=by rfl):
  PE X (.Call (.Name "len" p1) [.Call (.Name "set" p2) [e] [] pos2] [] pos) (fun σ H Q=>te σ H fun x H1=>∃(a:Addr)(zs:List Str),x=.ref a∧O4 X.K H1 a (zs.map V.str)∧zs.length+1<scanBound∧Q (.int ((cj (fun i=>zs.getD i Str.empty) zs.length).length:Nat)) H1):=by
 intro pins s σ H Q I h;refine wpAny_Call_Name_kw (gm I g1 m1 PySem.boot_len ?_ (by decide) (by decide));refine PyProof.Rows.callWith_builtin1 ?_ VL hp;rw[VL];show wpAny _ _ (spliced ((false,eval (.Call (.Name "set" p2) [e] [] pos2) X.env)::backTo pos (starEach [] X.env))) _ _ s;refine Calls.spliced_cons ?_;have hv:bootBuiltins "set"=some (.type "set"):=by decide+kernel
 refine wpAny_Call_Name_kw (gm I g2 m2 hv ?_ (by decide) (by decide));refine callWith_type1 ?_ hs WY;have ha:=nA he rR hs
 refine G4 (ha pos2 pins s σ H (fun vs H1=>match vs with
  |[x]=>∃(a:Addr)(zs:List Str),x=.ref a∧O4 X.K H1 a (zs.map V.str)∧zs.length+1<scanBound∧Q (.int ((cj (fun i=>zs.getD i Str.empty) zs.length).length:Nat)) H1
  |_=>False) I h) fun us s1 ⟨vs,H1,I1,rv,z⟩=>?_
 dsimp only at z
 split at z
 rotate_left
 ·exact z.elim
 rename_i x;obtain⟨a,zs,e1,sq,few,q⟩:=z;subst e1;obtain⟨u,rfl,ru⟩:=rv.one
 cases ru
 obtain⟨its,ri,pl,hz⟩:=I1.list sq;have ln:its.length=zs.length:=by rw[← ri.length,List.length_map]
 refine rh (I1.ok.hd hc) pl.isList (by simpa using ri) (by simpa[ln]using few) fun h' tk fin=>?_;obtain⟨so,kp⟩:=fin;have I2:Inv X pins σ H1 { s1 with heap:=h',toks:=tk }:=I1.kept fun b o z=>kp b o (Heap.lt_size z) z;refine Calls.spliced_nil ?_;obtain⟨o,go,oo⟩:=so.objOf;obtain⟨o1,es,ep,t,o2,_,_,o3,o4⟩:=oo;have lz:=md (fun i=>zs.getD i Str.empty) its.toArray.size;have sz:its.toArray.size=zs.length:=by simp[ln]
 have sb:scanBound<2 ^ 63:=by decide
 refine call_len_set go o1 o2 o4 (by omega) ?_;refine⟨.int _,H1,I2.tok _,⟨_,rfl⟩,?_⟩;rw[o3,sz];exact q
end
end L2
namespace L3
open PySem PySem.Spec PyProof.Rows L2
theorem zL(f:Nat→List Nat):∀n,cj (fun i=>S (f i)) n=(cj f n).map S
 |0=>rfl
 |n+1=>by
  show mO (cj (fun i=>S (f i)) n) (S (f n))=(mO (cj f n) (f n)).map S;rw[zL f n];unfold mO
  have:S (f n)∈(cj f n).map S↔f n∈cj f n:=by
   constructor
   ·intro h;obtain⟨x,hx,e⟩:=List.mem_map.mp h;rw[← Cg e];exact hx
   ·exact fun h=>List.mem_map.mpr ⟨_,h,rfl⟩
  by_cases q:f n∈cj f n
  ·rw[if_pos q,if_pos (this.mpr q)]
  ·rw[if_neg q,if_neg (fun z=>q (this.mp z)),List.map_append];rfl
def oV(ls:List (List Nat)):Nat:=(cj (fun i=>ls.getD i []) ls.length).length
theorem zK(ls:List (List Nat)):(cj (fun i=>(ls.map S).getD i Str.empty) (ls.map S).length).length=oV ls:=by
 have:(fun i=>(ls.map S).getD i Str.empty)=fun i=>S (ls.getD i []):=by
  funext i
  rw[List.getD_eq_getElem?_getD,List.getD_eq_getElem?_getD,List.getElem?_map]
  cases ls[i]? <;>rfl
 rw[this,List.length_map,zL,List.length_map];rfl
def jG(p:PV)(h:List PO):Res PV:=match Vh h p with
 |some xs=>match dS xs with
  |some ls=>if ls.length+1<scanBound then .ok (.int (oV ls:Nat)) h else .bad
  |none=>.bad
 |none=>.bad
section
variable{X:Cx}{T:Tab}{Ew:XK}{e:Expr}{f:Ex}{p1 p2 pos pos2:Pos}
theorem nO{K:W.Frag}{F:Hp}{m:List Addr}:∀{ls:List (List Nat)}{vs:List V},au K T F m (ls.map PV.str) vs→vs=(ls.map S).map V.str
 |[],_,.nil=>rfl
 |l::r,_,.cons a b=>by
  cases a
  rw[nO b];rfl
theorem yb(g1:Gl X "len")(m1:X.mg "len"=none)(g2:Gl X "set")(m2:X.mg "set"=none)(he:RE X T Ew e f)(hc:X.calm=true:=by rfl)
  (hs:starEach [e] X.env=(false,eval e X.env)::starEach [] X.env:=by rfl) (VL:starEach [.Call (.Name "set" p2) [e] [] pos2] X.env=(false,eval (.Call (.Name "set" p2) [e] [] pos2) X.env)::starEach [] X.env:=by rfl)
  (hp:(backTo pos (starEach [] X.env)).any (·.1)=false:=by rfl) (WY:(backTo pos2 (starEach [] X.env)).any (·.1)=false:=by rfl):
  RE X T Ew (.Call (.Name "len" p1) [.Call (.Name "set" p2) [e] [] pos2] [] pos) (c1 jG f):=by with_unfolding_all
 refine PE.imp (yr hc g1 m1 g2 m2 he hs VL hp WY) ?_;rintro σ H Q ⟨F,m,ρ,h,R,p⟩;refine⟨F,m,ρ,h,R,(aB.bind p).mono ?_⟩;rintro x H1 ⟨F1,m1,h1,p1,s1,R1,r1,w⟩
 unfold jG at w
 cases e1:Vh h1 p1 with
 |none=>rw[e1]at w;exact w.elim
 |some ys=>
  rw[e1]at w
  cases e2:dS ys with
  |none=>simp only[e2]at w;exact w.elim
  |some ls=>
   simp only[e2]at w
   by_cases q:ls.length+1<scanBound
   ·rw[if_pos q]at w;obtain⟨a,vs,rfl,ea,ra⟩:=fP R1 r1 e1;have em:=im e2;subst em;have ev:=nO ra;subst ev;refine⟨a,ls.map S,rfl,ea,by rw[List.length_map];exact q,?_⟩;rw[zK];exact aN w R1 (.int _)
   ·rw[if_neg q]at w;exact w.elim
end
end L3
namespace L2
open PySem PySem.Spec PyProof.Rows
end L2
namespace L3
open PySem PySem.Spec PyProof.Rows L2
section
variable{X:Cx}{T:Tab}{Ew:XK}{pos U_:Pos}
theorem iz{elt iter:Expr}{x y:Str}{px py:Pos}{ifs:List Expr}{scope:Scope}{it:Ax}{tt:Tx}{te:Ex}{M:List Str}{iy:Nat}(u_:List Nat)(QG:X.calm=true)(S:dj X.N X.env.scope scope u_ x M)
  (hi:RI X T Ew (.Name x px) iter it) (ht:∀cl C ex s H,Z8 (eh X M scope cl C ex s H) T Ew ifs tt) (he:∀cl C ex s H,RE (eh X M scope cl C ex s H) T Ew elt te)
  (ZV:X.N.Nodup) (hy:X.N[iy]? =some y) (YL:X.env.scope.names.lookup y=some .local) (Zx:swapsWith (.ListComp elt [⟨.Name x px,iter,ifs,0⟩] scope pos) (some (.Name y py)) U_.line X.env=pure true)
  (hs:∀y,foldedSetIterable iter X.env y=pure y:=by intro _;rfl):RS X T Ew (.Assign [.Name y py] (.ListComp elt [⟨.Name x px,iter,ifs,0⟩] scope pos) U_) (ba iy (cN Wg (fN u_ it tt te))):=by with_unfolding_all exact(
 PS.imp (ol (tt:=wT X T Ew tt) (te:=wE X T Ew te) u_ QG S hi ht he ZV hy YL Zx hs) fun D σ H ⟨F,m,ρ,h,R,p⟩=>oM (fun F m h H ps vs R r w D hD=>fB w R r D hD)
  ⟨F,m,ρ,h,R,(dZ p).mono (by rintro v H1 ⟨F1,m1,h1,q,s1,R1,r1,w1⟩;exact w1 F1 m1 H1 _ .refl ⟨R1,(s1.env R.env).set iy r1⟩)⟩)
theorem tF{elt iter:Expr}{x y:Str}{px py:Pos}{ifs:List Expr}{scope:Scope}{it:Ax}{tt:Tx}{te:Ex}{M:List Str}{iy:Nat}(u_:List Nat)(QG:X.calm=true)(S:dj X.N X.env.scope scope u_ x M)
  (hi:RI X T Ew (.Name x px) iter it) (ht:∀cl C ex s H,Z8 (eh X M scope cl C ex s H) T Ew ifs tt) (he:∀cl C ex s H,RE (eh X M scope cl C ex s H) T Ew elt te)
  (ZV:X.N.Nodup) (hy:X.N[iy]? =some y) (YL:X.env.scope.names.lookup y=some .local) (Zx:swapsWith (.ListComp elt [⟨.Name x px,iter,ifs,0⟩] scope pos) (some (.Name y py)) U_.line X.env=pure true)
  (hs:∀y,foldedSetIterable iter X.env y=pure y:=by intro _;rfl):RS X T Ew (.Assign [.Name y py] (.ListComp elt [⟨.Name x px,iter,ifs,0⟩] scope pos) U_) (ba iy (cN Ed (fN u_ it tt te))):=by with_unfolding_all exact(
 PS.imp (ol (tt:=wT X T Ew tt) (te:=wE X T Ew te) u_ QG S hi ht he ZV hy YL Zx hs) fun D σ H ⟨F,m,ρ,h,R,p⟩=>oM (fun F m h H ps vs R r w D hD=>tU w R r D hD)
  ⟨F,m,ρ,h,R,(dZ p).mono (by rintro v H1 ⟨F1,m1,h1,q,s1,R1,r1,w1⟩;exact w1 F1 m1 H1 _ .refl ⟨R1,(s1.env R.env).set iy r1⟩)⟩)
def lQ(v o i:PV)(ρ:Ev)(h:List PO):SR:=match qm h o,i with
 |some (n,xs),.int k=>match Wn xs.length k with
  |some j=>.nx ρ (h.set n (.lst (xs.set j v)))
  |none=>.bad
 |_,_=>.bad
def rn(fo fi fv:Ex):Sx:=fun ρ h=>dA (fv ρ h) fun v h1=>dA (fo ρ h1) fun o h2=>dA (fi ρ h2) fun i h3=>lQ v o i ρ h3
theorem tE{o i v:Expr}{fo fi fv:Ex}{px:Pos}(ho:RE X T Ew o fo)(hi:RE X T Ew i fi)(hv:RE X T Ew v fv)
  (ha:∀u,assign (.Subscript o i px) X.env u=(do
   let ov ← holding [u] (eval o X.env)
   let iv ← holding [u,ov] (eval i X.env)
   standAt px
   holding [u,ov,iv] (setItem ov iv u)
   release [u,ov,iv] []):=by intro _;rfl)
  (hs:swapsWithSole [.Subscript o i px] v pos.line X.env=pure false:=by rfl) (hw:swappedStores [.Subscript o i px] v X.env=pure none:=by rfl)
  (h1:(assignEach [.Subscript o i px] X.env).map (·.2)=[assign (.Subscript o i px) X.env]:=by rfl):RS X T Ew (.Assign [.Subscript o i px] v pos) (rn fo fi fv):=by with_unfolding_all
 refine PS.imp (Ap hv (Hs ho hi zI ha) hs hw h1) ?_;rintro D σ H ⟨F,m,ρ,h,R,p⟩;refine⟨F,m,ρ,h,R,(dZ p).mono ?_⟩;rintro v H1 ⟨F1,m1,h1,pv,s1,R1,r1,w1⟩
 refine⟨F1,m1,ρ,h1,R.of s1 R1,(dZ w1).mono ?_⟩;rintro o H2 ⟨F2,m2,h2,po,s2,R2,r2,w2⟩;refine⟨F2,m2,ρ,h2,(R.of s1 R1).of s2 R2,(dZ w2).mono ?_⟩;rintro i H3 ⟨F3,m3,h3,pi,s3,R3,r3,w3⟩;have RS3:=((R.of s1 R1).of s2 R2).of s3 R3;unfold lQ at w3
 split at w3
 ·rename_i n xs k el
  split at w3
  ·rename_i j hj;obtain⟨a,vs,rfl,em,hF,hH,rr⟩:=qk R3 (s3.rep r2) el
   cases r3
   have rv:=s3.rep (s2.rep r1);refine⟨a,vs,k,j,rfl,rfl,hH,by rw[← rr.length];exact hj,?_⟩;obtain⟨st,R'⟩:=R3.upd (o':=.lst (xs.set j pv)) (ho:=.lst (vs.set j v)) em hF ⟨_,hH⟩ ⟨hF,_,aA,rr.set rv j⟩;exact w3 F3 m3 _ _ st ⟨R',st.env RS3.env⟩
  ·exact w3.elim
 ·exact w3.elim
end
noncomputable def Hf(C:Nat):Res (List PV)→SR
 |.ok [v] h1=>.exc (.SX C v) h1
 |.exc e h1=>.exc e h1
 |_=>.bad
def gH(z:Bool)(C:Nat)(as:Ax):Sx:=if z=true then fun ρ h=>Hf C (as ρ h)else fun _ _=>.bad
theorem gX{X:Cx}{T:Tab}{E:XK}{x:Str}{C:Nat}{Ca fI:Addr}{np O2 pos:Pos}{e:Expr}{fs:Ax}{k:Nat}{fd:FuncData}{ps:List Str}(G:bK X.prog X.w X.K X.mg X.base QX 1 fI fd ps (tm X.K (XM C)))(c:V1 X.K Ca fI (XM C))(hb:bC X.K fd ps [])(hr:aY k X.A)(hC:T C=some Ca)(hg:Gl X x)(hm:X.mg x=some (.ref Ca))(l:Lv X E)
  (ha:RA X T E [e] fs) (hl:ps.length=2:=by rfl) (hc:X.calm=true:=by rfl) (PJ:nD0 x:=by decide) (he:starEach [e] X.env= [(false,eval e X.env)]:=by rfl) (J3:(backTo O2 (starEach [] X.env)).any (·.1)=false:=by rfl):
  RS X T E (.Raise (some (.Call (.Name x np) [e] [] O2)) none pos) (gH (Nat.ble 2 k) C fs):=by with_unfolding_all
 by_cases hz:Nat.ble 2 k=true
 ·refine PS.imp (yj G c hb hl (hr.mono (Nat.le_of_ble_eq_true hz)) hg hm hc l ha PJ he J3) ?_;rintro D σ H ⟨F,m,ρ,h,R,p⟩;refine⟨F,m,ρ,h,R,?_⟩
  unfold gH at p;rw[if_pos hz]at p
  cases z:fs ρ h with
  |ok qs h1=>
   rw[z]at p;intro F' m' H' vs s R' r
   cases qs with
   |nil=>exact p.elim
   |cons v more=>
    cases more with
    |cons _ _=>exact p.elim
    |nil=>obtain⟨y,rfl,ry⟩:=r.one;refine⟨y,rfl,c,fun dx nd=>?_⟩;obtain⟨s2,R2⟩:=aP.lay (o:=Uc dx (XM C) y) R' nd;exact p _ m' _ (.ref Ca) (some dx) (s.trans s2) R2 ⟨Ca,dx,y,hC,rfl,rfl,aA,s2.rep ry⟩
  |exc e h1=>rw[z]at p;exact p
  |bad=>rw[z]at p;exact p
 ·intro pins s σ H D I ⟨F,m,ρ,h,R,p⟩;unfold gH at p;rw[if_neg hz]at p;exact p.elim
noncomputable def pAt(ok:Nat→Bool)(p:PV)(h:List PO):Res PV:=match p with
 |.SX C v=>if ok C=true then .ok v h else .bad
 |_=>.bad
theorem Kt{X:Cx}{T:Tab}{Ew:XK}{o:Expr}{fo:Ex}{apos:Pos}{ok:Nat→Bool}{f:Str}(hx:∀C Ca,ok C=true→T C=some Ca→XM C=f∧∃fI,V1 X.K Ca fI f)(ho:RE X T Ew o fo)(QH:attributeBase o f X.env (eval o X.env)=eval o X.env:=by rfl):RE X T Ew (.Attribute o f apos) (c1 (pAt ok) fo):=by with_unfolding_all
 refine PE.imp (DA ho QH) ?_;rintro σ H Q ⟨F,m,ρ,h,R,p⟩;refine⟨F,m,ρ,h,R,(aB.bind p).mono ?_⟩;rintro x H1 ⟨F1,m1,h1,p1,s1,R1,r1,w1⟩
 unfold pAt at w1
 split at w1
 ·split at w1
  ·rename_i C v hok
   cases r1 with
   |SX c e d r=>obtain⟨xe,fI,xi⟩:=hx _ _ hok c;rw[xe]at d;exact⟨_,_,fI,_,_,rfl,R1.same _ _ e,R1.same _ _ d,xi,w1 F1 m1 H1 _ .refl R1 r⟩
  ·exact w1.elim
 ·exact w1.elim
noncomputable def BI:PV→Option (Nat×PV)
 |.cls C=>some (C,.exc C)
 |.SX C v=>some (C,.SX C v)
 |_=>none
theorem BH{K:W.Frag}{T:Tab}{F:Hp}{m:List Addr}{e p:PV}{C:Nat}{cls:Value}{dx:Option Addr}(h:ky K T F m e cls dx)(x:BI e=some (C,p)):∃Ca,T C=some Ca∧cls=.ref Ca:=by
 unfold ky at h
 split at h
 ·cases x;obtain⟨Ca,h1,h2,_⟩:=h;exact⟨Ca,h1,h2⟩
 ·cases x;obtain⟨Ca,_,_,h1,h2,_⟩:=h;exact⟨Ca,h1,h2⟩
 ·exact h.elim
theorem BG{K:W.Frag}{T:Tab}{F F':Hp}{m:List Addr}{e p:PV}{C:Nat}{cls:Value}{dx:Option Addr}{a:Addr}(h:ky K T F m e cls dx)(x:BI e=some (C,p))(s:cA F F')(ea:F' a=some (mr a cls dx)):aF K T F' m p (.ref a):=by
 unfold ky at h
 split at h
 ·cases x;obtain⟨Ca,h1,rfl,rfl⟩:=h;exact .exc h1 ea
 ·cases x;obtain⟨Ca,d,y,h1,rfl,rfl,h4,h5⟩:=h;exact .SX h1 ea (s _ _ h4) (h5.mono s fun _ _ z=>z)
 ·exact h.elim
noncomputable def isB(k:Bool):Value→Bool
 |.bool b=>b==k
 |_=>false
def oq(p q:PV)(h:List PO):Res PV:=match p with
 |.dct _=>(match q with
  |.str _=>.ok (.bl false) h
  |_=>.bad)
 |p=>Pb p q h
section
variable{X:Cx}
theorem uL(l:Addr)(es:Array DictEntry)(n:Nat)(dd:Option Addr)(sl:Array (Option Value))(z:Str)(u:Tok):
  Meets (Builtin.«dict.__eq__» ⟨[.ref l,.str z u],[]⟩) (fun _ R s=>s.heap.get? l=some { cls:=.type "dict",dict:=dd,data:=.dict es n,slots:=sl }∧R (.ok (.ret .notImplemented)) s):=
 .of_wp fun prog w A R s h=>by
  obtain⟨hp,g,d,tk,os⟩:=s;obtain⟨hl,h⟩:=h;have f1:=PySem.F.sub_str_dict
  wp_walk using PySem.AutoSeq1.wpAny_loadPart' hl
  exact⟨_,rfl,h⟩
theorem tf(l:Addr)(es:Array DictEntry)(n:Nat)(dd:Option Addr)(sl:Array (Option Value))(z:Str)(u:Tok):
  Meets (Builtin.«str.__eq__» ⟨[.str z u,.ref l],[]⟩) (fun _ R s=>s.heap.get? l=some { cls:=.type "dict",dict:=dd,data:=.dict es n,slots:=sl }∧R (.ok (.ret .notImplemented)) s):=
 .of_wp fun prog w A R s h=>by
  obtain⟨hp,g,d,tk,os⟩:=s;obtain⟨hl,h⟩:=h
  wp_walk using PySem.AutoSeq1.wpAny_loadPart' hl,wpAny_load hl
  exact⟨_,rfl,h⟩
def KH(K:W.Frag):R2:=fun x y H Q=>Ag K false x y H Q∨∃a kvs z,x=.ref a∧y=.str z∧Rd H a (.dK kvs)∧Q (.bl false) H
theorem ou(hu:X.A.units+64<cLine):Pa X (compareOp .Eq) (KH X.K):=Pa.or (vH hu) (by
 intro pins s σ H x y v u Q I rx ry h;obtain⟨a,kvs,z,rfl,rfl,rd,q⟩:=h
 cases rx
 obtain⟨t,rfl⟩:=ry;obtain⟨_,_,vs,_,o,es,ep,h1,h2,h3,_⟩:=iU I.hok rd;obtain⟨oc,od,Zk,S6⟩:=o;have hc:oc=.type "dict":=h2.1;dsimp only at h3;subst hc h3;show wpAny _ _ (richCompare .Eq _ _) _ _ _
 exact SeqAt.rc_eq_decline_or (k:=false) ⟨_,h1,rfl⟩ (typeIs_str s z t) (by decide) PySem.F.sub_str_dict PySem.F.slot_dict_eq PySem.F.slot_str_eq_refl
  (fun _ hq=>call_meets PySem.F.slot_dict_eq ⟨_,h1,rfl⟩ PySem.F.entry_dict_eq (PySem.F.args_dict_eq_2 _ _) (uL a _ _ _ _ z t) ⟨h1,hq⟩)
  (fun _ hq=>call_meets PySem.F.slot_str_eq_refl (typeIs_str s z t) PySem.F.entry_str_eq (PySem.F.args_str_eq_2 _ _) (tf a _ _ _ _ z t) ⟨h1,hq⟩)
  (fun _ hq=>wpAny_of_eq (rfl:isSame (.ref a) (.str z t)=pure false) hq) (.inr (by omega)) ⟨.bl false,H,I,rfl,q⟩)
theorem jh{K:W.Frag}{T:Tab}:dN K T (KH K) oq:=by
 intro F m h H x y p q Q Ew R rp rq w;unfold oq at w
 split at w
 ·split at w
  ·cases rq
   cases rp with
   |dct e k r=>exact .inr ⟨_,_,_,rfl,rfl,.inr ⟨_,R.same _ _ e⟩,aN w R (.bl _)⟩
  ·exact w.elim
 ·exact .inl (rO F m h H x y _ q Q Ew R rp rq w)
end
section
variable{K:W.Frag}{T:Tab}{F H:Hp}{m:List Addr}{h:List PO}
theorem RelH.lt{i:Nat}{a:Addr}(R:RelH K T F m h H)(em:m[i]? =some a):i<h.length:=by
 rw[R.len];rcases Nat.lt_or_ge i m.length with q|q
 ·exact q
 ·rw[List.getElem?_eq_none q]at em;cases em
theorem RelH.inj{i j:Nat}{a:Addr}(R:RelH K T F m h H)(e1:m[i]? =some a)(e2:m[j]? =some a):i=j:=by
 have h1:i<m.length:=by rw[← R.len];exact R.lt e1
 have h2:j<m.length:=by rw[← R.len];exact R.lt e2
 rw[List.getElem?_eq_getElem h1,Option.some.injEq]at e1;rw[List.getElem?_eq_getElem h2,Option.some.injEq]at e2;exact(List.getElem_inj R.nd).mp (e1.trans e2.symm)
theorem BC{i:Nat}{a:Addr}{u:HO}{p:PV}(R:RelH K T F m h H)(em:m[i]? =some a)(hF:F a=none)(hH:∃o,H a=some o)(hp:p.pure=true)(r:aF K T (upd F a u) m p (.ref a)):
  aP F m H (upd F a u) m (upd H a u)∧RelH K T (upd F a u) m (h.set i (.G7 p)) (upd H a u):=by
 have hi:=R.lt em;have am:a∈m:=List.mem_of_getElem? em;have sF:cA F (upd F a u):=fx hF u;refine⟨⟨sF,⟨[],by simp⟩,fun b o e nb=>?_,fun b o e=>?_,fun j c hj e=>(by rw[List.getElem?_eq_none hj]at e;cases e),fun c o e=>?_⟩,?_⟩
 ·have:b≠a:=fun z=>nb (by rw[z];exact am);rw[aj this];exact e
 ·by_cases hb:b=a
  ·subst hb;exact⟨u,aA⟩
  ·exact⟨o,by rw[aj hb];exact e⟩
 ·by_cases hc:c=a
  ·subst hc;exact .inr (.inr am)
  ·rw[aj hc]at e;exact .inl e
 ·refine⟨fun b o e=>?_,by rw[List.length_set];exact R.len,fun j ob c e1 e2=>?_,R.nd⟩
  ·by_cases hb:b=a
   ·subst hb;rw[aA]at e ⊢;exact e
   ·rw[aj hb]at e ⊢;exact R.same b o e
  ·by_cases hj:i=j
   ·subst hj;rw[List.getElem?_set_self hi]at e1
    cases e1
    rw[em]at e2;cases e2;exact⟨r,hp,u,aA⟩
   ·rw[List.getElem?_set_ne hj]at e1;have hc:c≠a:=fun z=>by subst z;exact hj (R.inj em e2)
    have q:=R.obj j ob c e1 e2
    cases ob with
    |lst xs=>obtain⟨f,vs,z,rr⟩:=q;exact⟨by rw[aj hc];exact f,vs,by rw[aj hc];exact z,rr.mono sF fun _ _ h=>h⟩
    |dct xs=>obtain⟨f,vs,z,k,rr⟩:=q;exact⟨by rw[aj hc];exact f,vs,by rw[aj hc];exact z,k,rr.mono sF fun _ _ h=>h⟩
    |G7 q'=>obtain⟨r1,r2,o,r3⟩:=q;exact⟨r1.mono sF fun _ _ h=>h,r2,o,sF _ _ r3⟩
    |obj C fs=>obtain⟨f,vs,⟨Ca,dx,cu,z,d⟩,k,rr⟩:=q;exact⟨by rw[aj hc];exact f,vs,⟨Ca,dx,cu,by rw[aj hc];exact z,sF _ _ d⟩,k,rr.mono sF fun _ _ h=>h⟩
end
noncomputable def qp(h:List PO):PV→Option (Nat×List (PK×PV))
 |.ref i=>match h[i]? with
  |some (.dct kvs)=>some (i,kvs)
  |_=>none
 |_=>none
def fzP(h:List PO)(p:PV):Option (PV×List PO):=match qp h p with
 |some (i,kvs)=>if aE kvs=true then some (.dct kvs,h.set i (.G7 (.dct kvs)))else none
 |none=>eL h p
def Ys(p:PV)(h:List PO):Res PV:=match fzP h p with
 |some (q,h2)=>.ok q h2
 |none=>.bad
def XF(f:Ex):Ex:=fun ρ h=>(f ρ h).bind Ys
section
variable{K:W.Frag}{T:Tab}{F H:Hp}{m:List Addr}{h:List PO}{p:PV}{x:V}
theorem qo{i:Nat}{kps:List (PK×PV)}(R:RelH K T F m h H)(r:aF K T F m p x)(e:qp h p=some (i,kps)):∃a kvs,x=.ref a∧m[i]? =some a∧F a=none∧H a=some (.dK kvs)∧fR K T F m kps kvs:=by
 unfold qp at e
 split at e
 ·rename_i j
  split at e
  ·rename_i kvs q
   cases e
   cases r with
   |@ref _ a em=>obtain⟨f,vs,e1,k,rr⟩:=R.obj _ _ a q em;exact⟨a,vs,rfl,em,f,e1,k,rr⟩
  ·cases e
 ·cases e
end
section
variable{X:Cx}{T:Tab}{Ew:XK}{a b e o k v:Expr}{fa fb fo fk fv:Ex}{pos px:Pos}
theorem tJ(ha:RE X T Ew a fa):RE X T Ew a (XF fa):=by with_unfolding_all
 refine PE.imp (Gb ha) ?_;rintro σ H Q ⟨F,m,ρ,h,R,p⟩;refine⟨F,m,ρ,h,R,(aB.bind p).mono ?_⟩;rintro x H1 ⟨F1,m1,h1,p1,s1,R1,r1,w1⟩
 unfold Ys fzP at w1
 cases z:qp h1 p1 with
 |none=>
  rw[z]at w1;dsimp only at w1
  cases y:eL h1 p1 with
  |none=>rw[y]at w1;exact w1.elim
  |some ab=>obtain⟨q,h2⟩:=ab;rw[y]at w1;obtain⟨F2,s2,R2,r2,_⟩:=gq R1 r1 y;exact .inl (w1 F2 m1 H1 x s2 R2 r2)
 |some ab=>
  obtain⟨i,kps⟩:=ab;rw[z]at w1;dsimp only at w1
  by_cases hp:aE kps=true
  ·rw[if_pos hp]at w1;obtain⟨a,kvs,rfl,em,hF,hH,kk,rr⟩:=qo R1 r1 z;refine .inr ⟨a,kvs,hH,fun ob=>?_⟩;have rl:aF X.K T (L2.upd F1 a (.Rx ob (.dK kvs))) m1 (.dct kps) (.ref a):=.dct aA kk (rr.mono (fx hF _) fun _ _ h=>h);have pp:(PV.dct kps).pure=true:=by simpa[PV.pure]using hp
   obtain⟨s2,R2⟩:=BC R1 em hF ⟨_,hH⟩ pp rl;exact w1 _ m1 _ _ s2 R2 rl
  ·rw[if_neg hp]at w1;exact w1.elim
theorem qb{K:W.Frag}{F H:Hp}{m:List Addr}{h:List PO}{Q:VK}{kps:List (PK×PV)}{kvs:List (Key×V)}(w:aB K T (aF K T) F m H Q Ew (.ok (.ref h.length) (h++ [.dct kps])))(R:RelH K T F m h H)(r:fR K T F m kps kvs):∀p,H p=none→Q (.ref p) (upd H p (.dK kvs)):=fun p hp=>by
 have hF:F p=none:=R.same.free hp;have hm:p∉m:=R.fresh hp
 have st:aP F m H F (m++ [p]) (upd H p (.dK kvs)):=by
  refine⟨cA.refl _,⟨[p],rfl⟩,fun b o e _=>by rw[aj (ar e hp)];exact e,fun b o e=>⟨o,by rw[aj (ar e hp)];exact e⟩,fun i a hi e=>?_,fun a o e=>.inl e⟩;rw[List.getElem?_append_right hi]at e
  cases q:i - m.length with
  |zero=>rw[q]at e;simp at e;rw[← e];exact hp
  |succ n=>rw[q]at e;simp at e
 refine w F (m++ [p]) _ (.ref p) st ⟨fun b o e=>?_,by simp[R.len],fun i ob c e1 e2=>?_,?_⟩ (.ref (by rw[R.len,List.getElem?_append_right (abl _)];simp))
 ·have:=R.same b o e;rw[aj (ar this hp)];exact this
 ·by_cases hi:i<h.length
  ·rw[List.getElem?_append_left hi]at e1;have Uy:i<m.length:=by rw[← R.len];exact hi
   rw[List.getElem?_append_left Uy]at e2;have hc:c≠p:=fun z=>hm (by rw[← z];exact List.mem_of_getElem? e2);have q:=R.obj i ob c e1 e2
   cases ob with
   |lst xs=>obtain⟨f,vs,z,rr⟩:=q;exact⟨f,vs,by rw[aj hc];exact z,st.reps rr⟩
   |dct xs=>obtain⟨f,vs,z,k,rr⟩:=q;exact⟨f,vs,by rw[aj hc];exact z,k,st.reps rr⟩
   |G7 q'=>obtain⟨r1,r2,o,r3⟩:=q;exact⟨st.rep r1,r2,o,r3⟩
   |obj C fs=>obtain⟨f,vs,⟨Ca,dx,cu,z,d⟩,k,rr⟩:=q;exact⟨f,vs,⟨Ca,dx,cu,by rw[aj hc];exact z,d⟩,k,st.reps rr⟩
  ·have hge:h.length≤i:=Nat.le_of_not_lt hi;rw[List.getElem?_append_right hge]at e1;have abG:m.length≤i:=by rw[← R.len];exact hge
   rw[List.getElem?_append_right abG]at e2;rw[R.len]at e1
   cases q:i - m.length with
   |zero=>rw[q]at e1 e2;simp at e1 e2;subst e1 e2;exact⟨hF,kvs,aA,r.1,st.reps r.2⟩
   |succ n=>rw[q]at e1;simp at e1
 ·rw[List.nodup_append];exact⟨R.nd,by simp,fun x hx y hy=>by simp at hy;subst hy;intro z;subst z;exact hm hx⟩
noncomputable def qN:Ex:=fun _ h=>.ok (.ref h.length) (h++ [.dct []])
theorem rH:RE X T Ew (.Dict [] [] pos) qN:=by with_unfolding_all exact(
  PE.imp AQ (by rintro σ H Q ⟨F,m,ρ,h,R,p⟩;exact qb p R.toRelH .nil))
def lW(ps:List PV)(h:List PO):Res PV:=match ps with
 |[p]=>match W2 h p with
  |some kps=>.ok (.ref h.length) (h++ [.dct kps])
  |none=>.bad
 |_=>.bad
theorem wo{X:Cx}:dD X (.type "dict") (fun xs H Q=>∃a kvs,xs= [.ref a]∧Rd H a (.dK kvs)∧∀p,H p=none→Q (.ref p) (upd H p (.dK kvs))):=by
 intro pins s σ H xs us Q I r h;obtain⟨a,kvs,rfl,rd,q⟩:=h;obtain⟨u,rfl,ru⟩:=r.one
 cases(show u=Value.ref a from ru)
 exact BQ I rd fun p s' np I'=>⟨.ref p,_,I',rfl,q p np⟩
theorem vB{K:W.Frag}{T:Tab}:qU K T (fun xs H Q=>∃a kvs,xs= [.ref a]∧Rd H a (.dK kvs)∧∀p,H p=none→Q (.ref p) (upd H p (.dK kvs))) lW:=by
 intro F m h H xs ps Q Ew R rs w;unfold lW at w
 split at w
 ·obtain⟨x,rfl,rx⟩:=rs.one
  split at w
  ·rename_i kps e;obtain⟨a,kvs,rfl,rd,kk,rr⟩:=jO R rx e;exact⟨a,kvs,rfl,rd,qb w R ⟨kk,rr⟩⟩
  ·exact w.elim
 ·exact w.elim
theorem tK{es:List Expr}{f:Ax}{p0:Pos}(hg:Gl X "dict")(hm:X.mg "dict"=none)(ha:RA X T Ew (e::es) f)
  (he:sE0 X e es:=by rfl) (J3:sP0 X es pos:=by rfl):RE X T Ew (.Call (.Name "dict" p0) (e::es) [] pos) (cN lW f):=by with_unfolding_all exact(
  gY wo vB hg hm (by decide+kernel) ha (by decide) (by decide) he J3)
def tw(v o i:PV)(ρ:Ev)(h:List PO):SR:=match qp h o,kZ i with
 |some (n,kps),some k=>if kps.length<sizeLine then .nx ρ (h.set n (.dct (br kps k v)))else .bad
 |_,_=>.bad
def pW(fo fi fv:Ex):Sx:=fun ρ h=>dA (fv ρ h) fun v h1=>dA (fo ρ h1) fun o h2=>dA (fi ρ h2) fun i h3=>tw v o i ρ h3
theorem mX(hu:X.A.units+64<cLine)(ho:RE X T Ew o fo)(hk:RE X T Ew k fk)(hv:RE X T Ew v fv)(hs:swapsWith v (some (.Subscript o k px)) pos.line X.env=pure false:=by rfl):
  RS X T Ew (.Assign [.Subscript o k px] v pos) (pW fo fk fv):=by with_unfolding_all
 refine PS.imp (Dp (by omega) ho hk hv hs) ?_;rintro D σ H ⟨F,m,ρ,h,R,p⟩;refine⟨F,m,ρ,h,R,(dZ p).mono ?_⟩;rintro v H1 ⟨F1,m1,h1,pv,s1,R1,r1,w1⟩
 refine⟨F1,m1,ρ,h1,R.of s1 R1,(dZ w1).mono ?_⟩;rintro o H2 ⟨F2,m2,h2,po,s2,R2,r2,w2⟩;refine⟨F2,m2,ρ,h2,(R.of s1 R1).of s2 R2,(dZ w2).mono ?_⟩;rintro i H3 ⟨F3,m3,h3,pi,s3,R3,r3,w3⟩;have RS3:=((R.of s1 R1).of s2 R2).of s3 R3;unfold tw at w3
 split at w3
 ·rename_i n kps kk el ek
  split at w3
  ·rename_i hz;obtain⟨a,kvs,rfl,em,hF,hH,rr⟩:=qo R3 (s3.rep r2) el;have Wu:=jK r3 ek;subst Wu;have rv:=s3.rep (s2.rep r1);have hl:kvs.length=kps.length:=by have:=congrArg List.length rr.1;simpa using this
   refine⟨a,_,rfl,Cm.k hH (by rw[hl];exact hz),?_⟩;have rp:=fR.put (k:=kk) rr rv;obtain⟨st,R'⟩:=R3.upd (o':=.dct (br kps kk pv)) (ho:=.dK (iE kvs (tk kk) v)) em hF ⟨_,hH⟩ ⟨hF,_,aA,rp.1,rp.2⟩;exact w3 F3 m3 _ _ st ⟨R',st.env RS3.env⟩
  ·exact w3.elim
 ·exact w3.elim
end
end L3
namespace L2
open PySem PySem.Spec PyProof.Rows
noncomputable def uU(v d:Addr):HO:=.ext fun h=>h.IsValuesView v d
theorem KV.vals{kvs:List (Key×V)}{vs:List (Key×Value)}(r:KV kvs vs):aL (kvs.map (·.2)) (vs.map (·.2)):=by
 unfold KV at r
 induction r with
 |nil=>exact .nil
 |cons h t ih=>exact .cons h.2 ih
def JV(td:TE):TE:=fun σ H Q=>td σ H fun x H1=>∃a kvs,x=.ref a∧Rd H1 a (.dK kvs)∧∀v,H1 v=none→Q (.ref v) (upd H1 v (uU v a))
section
variable{X:Cx}{o:Expr}{td:TE}{apos O2:Pos}
theorem DB(ho:PE X o td)(QH:attributeBase o "values" X.env (eval o X.env)=eval o X.env:=by rfl)(hline:(apos.endLine==O2.line)=true:=by rfl):PE X (.Call (.Attribute o "values" apos) [] [] O2) (JV td):=by
 intro pins s σ H Q I h;refine wpAny_Call_method0_late QH hline (G4 (ho pins s σ H _ I h) ?_);rintro u s1 ⟨x,H1,I1,r1,a,kvs,ex,rd,q⟩;subst ex;obtain rfl:u=Value.ref a:=r1;obtain⟨t1,t2,_⟩:=IV I1 (.inl ⟨kvs,rd⟩);obtain⟨_,sm,vs,r,dd⟩:=iU I1.hok rd;refine⟨"dict","dict.values",PySem.F.plainAttrs_dict,PySem.F.slot_dict_values,PySem.F.type_dict_values,t1,t2,Calls.callWith_builtin rfl (PySem.evalArgs_none ?_)⟩;refine call_meetsIn PySem.F.slot_dict_values t1 PySem.F.entry_dict_values (PySem.F.args_dict_values_1 _) (meets_dict_values (bF X.prog X.w) a sm) ⟨⟨vs,dd⟩,?_⟩;have e1:(s1.heap.push { cls:=.type "dict_values",data:=.fields #[.ref a] }).get? s1.heap.objs.size=some { cls:=.type "dict_values",data:=.fields #[.ref a] }:=Heap.get?_push_size _ rfl
 exact⟨.ref _,_,I1.laid (a:=s1.heap.objs.size) (o:=uU s1.heap.objs.size a) (t':=s1.toks) (fun b w z=>Heap.get?_push_of_some _ z) (abl _)
  ⟨⟨_,e1,rfl,rfl⟩,⟨_,e1⟩,(by rintro h1 h2 ⟨w,z,c⟩ k;exact ⟨w,k w z,c⟩)⟩,rfl,q _ (I1.hok.fresh (abl _))⟩
theorem wm(hc:X.calm=true):dD X (.type "list") (fun xs H Q=>∃v d kvs,xs= [.ref v]∧H v=some (uU v d)∧Rd H d (.dK kvs)∧∀p,H p=none→Q (.ref p) (upd H p (.lst (kvs.map (·.2))))):=by
 intro pins s σ H xs us Q I r h;obtain⟨v,d,kvs,rfl,ev,rd,q⟩:=h;obtain⟨u,rfl,ru⟩:=r.one
 cases(show u=Value.ref v from ru)
 obtain⟨hz,sm,vs,rk,dd⟩:=iU I.hok rd;obtain⟨hv,_,_⟩:=(show bq X.prog X.w H s.heap v (uU v d)from I.hok v _ ev)
 obtain⟨ep,da⟩:=dd.dictAt;refine W.kdl_call (W.kdl_values (knd:=bF X.prog X.w) (kvs:=vs) (ep:=ep)) (I.ok.hd hc) ⟨hv,da⟩ (by rw[← rk.length];exact hz) fun h' tk Wz c' hk hl ha=>?_
 have el:Wz.toList=vs.map (·.2):=by
  refine List.ext_getElem? fun j=>?_;rw[List.getElem?_map]
  by_cases hj:j<vs.length
  ·have Wv:j<Wz.size:=by rw[ha.1];exact hj
   obtain⟨k,e⟩:=ha.2 j Wz[j] (Array.getElem?_eq_getElem Wv);rw[e];simp[Wv]
  ·have Wv:¬ j<Wz.size:=by rw[ha.1];exact hj
   rw[List.getElem?_eq_none (by simpa using Wv),List.getElem?_eq_none (by simpa using hj)];rfl
 refine⟨.ref _,_,I.laid (a:=s.heap.objs.size) (o:=.lst (kvs.map (·.2))) (t':=tk) hk (abl _) ⟨by rw[List.length_map];exact hz,Wz.toList,c',by rw[el];exact rk.vals,by simpa using hl⟩,rfl,q _ (I.hok.fresh (abl _))⟩
end
end L2
namespace L3
open PySem PySem.Spec PyProof.Rows L2
noncomputable def um:PK→PV
 |.inl i=>.int i
 |.inr l=>.str l
theorem yN{K:W.Frag}{T:Tab}{F:Hp}{m:List Addr}(k:PK):aF K T F m (um k) (kV (tk k)):=by
 cases k with
 |inl i=>exact .int i
 |inr l=>exact .str l
theorem EM{K:W.Frag}{T:Tab}{F H:Hp}{m:List Addr}{a:Addr}{o:Obj}{kps:List (PK×PV)}{kvs:List (Key×V)}(e:F a=some (.Rx o (.dK kvs)))(k:kvs.map (·.1)=kps.map (fun p=>tk p.1)):sM K T (Itd a o kvs) (kps.map fun p=>um p.1) F m H:=by
 have hl:kvs.length=kps.length:=by have:=congrArg List.length k;simpa using this
 have at':∀{F1:Hp}{m1:List Addr}{h1:List PO}{H1:Hp},aP F m H F1 m1 H1→RelH K T F1 m1 h1 H1→H1 a=some (.Rx o (.dK kvs)):=fun s R=>R.same _ _ (s.fz _ _ e);refine⟨fun i F1 m1 h1 H1 s R hi=>⟨at' s R,by rw[hl];simpa using hi⟩,fun i F1 m1 h1 H1 v H2 s R hi y=>?_,fun F1 m1 h1 H1 s R=>⟨at' s R,by rw[hl];simp⟩⟩;obtain⟨rfl,kk,vv,ek,rfl⟩:=y;have Uy:i<kps.length:=by simpa using hi
 have e1:kk=tk kps[i].1:=by have:=congrArg (fun l=>l[i]?) k;simp only[List.getElem?_map,ek,List.getElem?_eq_getElem Uy,Option.map_some,Option.some.injEq]at this;exact this
 subst e1;exact⟨F1,m1,um kps[i].1,.refl,R,by simp[Uy],yN _⟩
def io(p:PV)(h:List PO):Res (List PV):=match p with
 |.dct kps=>.ok (kps.map fun p=>um p.1) h
 |p=>iS p h
def lF(f:Ex):Ax:=fun ρ h=>(f ρ h).bind io
section
variable{X:Cx}{T:Tab}{Ew:XK}{tg a b e o:Expr}{fa fb fo:Ex}{pos p0:Pos}
theorem mZ(ha:RE X T Ew a fa):RI X T Ew tg a (lF fa):=by with_unfolding_all
 intro pins s σ H R I ⟨F,m,ρ,h,RR,p⟩
 by_cases hd:∃kps h1,fa ρ h=.ok (.dct kps) h1
 ·obtain⟨kps,h1,q⟩:=hd;refine Dy ha pins s σ H R I ⟨F,m,ρ,h,RR,?_⟩;unfold lF at p;rw[q]at p ⊢;intro F1 m1 H1 x s1 R1 r1;have w1:=aB.step s1 (show aB X.K T _ F m H R Ew (io (.dct kps) h1)from p)
  cases r1 with
  |dct ef kk rr=>exact⟨_,_,_,rfl,R1.same _ _ ef,aB.here w1 R1 fun H=>EM ef kk⟩
 ·have e:lF fa ρ h=mo fa ρ h:=by
   unfold lF mo
   cases q:fa ρ h with
   |bad=>rfl
   |exc _ _=>rfl
   |ok p1 h1=>
    show io p1 h1=iS p1 h1;unfold io
    split
    ·exact absurd ⟨_,_,q⟩ hd
    ·rfl
  rw[e]at p;exact iA ha pins s σ H R I ⟨F,m,ρ,h,RR,p⟩
def wH(p:PV)(h:List PO):Res PV:=match W2 h p with
 |some kps=>.ok (.lst (kps.map (·.2))) h
 |none=>.bad
def BU(f:Ex):Ex:=fun ρ h=>(f ρ h).bind wH
theorem Da{apos O2:Pos}(hc:X.calm=true)(hg:Gl X "list")(hm:X.mg "list"=none)(ho:RE X T Ew o fo)
  (QH:attributeBase o "values" X.env (eval o X.env)=eval o X.env:=by rfl) (hline:(apos.endLine==O2.line)=true:=by rfl)
  (he:starEach [.Call (.Attribute o "values" apos) [] [] O2] X.env= [(false,eval (.Call (.Attribute o "values" apos) [] [] O2) X.env)]:=by rfl) (J3:(backTo pos (starEach [] X.env)).any (·.1)=false:=by rfl):
  RE X T Ew (.Call (.Name "list" p0) [.Call (.Attribute o "values" apos) [] [] O2] [] pos) (BU fo):=by with_unfolding_all
 refine PE.imp (qc (wm hc) hg hm (by decide+kernel) (nA (DB ho QH hline) rR he) (by decide) (by decide) he J3) ?_;rintro σ H Q ⟨F,m,ρ,h,R,p⟩;refine⟨F,m,ρ,h,R,(aB.bind p).mono ?_⟩;rintro x H1 ⟨F1,m1,h1,p1,s1,R1,r1,w1⟩
 unfold wH at w1
 cases q:W2 h1 p1 with
 |none=>rw[q]at w1;exact w1.elim
 |some kps=>
  rw[q]at w1;obtain⟨a,kvs,rfl,rd,kk,rr⟩:=jO R1 r1 q;refine⟨a,kvs,rfl,rd,fun v nv=>?_⟩
  have ne:a≠v:=by
   rcases rd with z|⟨_,z⟩
   ·exact ar z nv
   ·exact ar z nv
  refine⟨v,a,kvs,rfl,aA,?_,fun l nl=>?_⟩
  ·rcases rd with z|⟨ob,z⟩
   ·exact .inl (by rw[aj ne];exact z)
   ·exact .inr ⟨ob,by rw[aj ne];exact z⟩
  ·obtain⟨s2,R2⟩:=aP.lay (o:=uU v a) R1 nv;obtain⟨s3,R3⟩:=aP.lay (o:=.lst (kvs.map (·.2))) R2 nl;exact w1 _ m1 _ _ (s2.trans s3) R3 (.lst aA ((s2.trans s3).reps rr))
end
end L3
namespace L2
open PySem PySem.Spec PyProof.Rows
end L2
namespace L3
open PySem PySem.Spec PyProof.Rows L2
end L3
namespace L2
open PySem PySem.Spec PyProof.Rows
noncomputable def No:Key→PyData
 |.inl i=>.int i
 |.inr x=>.str x
mutual
inductive Y4(H:Hp):V→PyData→Prop where
 |bl (b:Bool):Y4 H (.bl b) (.bool b)
 |int (i:Int):Y4 H (.int i) (.int i)
 |str (x:Str):Y4 H (.str x) (.str x)
 |lst {a:Addr} {xs:List V} {ds:List PyData} (e:Rd H a (.lst xs)) (r:Ci H xs ds):Y4 H (.ref a) (.list ds)
 |dct {a:Addr} {kvs:List (Key×V)} {kds:List (PyData×PyData)} (e:Rd H a (.dK kvs)) (k:kds.map (·.1)=kvs.map (fun p=>No p.1)) (r:Ci H (kvs.map (·.2)) (kds.map (·.2))):Y4 H (.ref a) (.dict kds)
inductive Ci(H:Hp):List V→List PyData→Prop where
 |nil:Ci H [] []
 |cons {x:V} {d:PyData} {xs:List V} {ds:List PyData} (r:Y4 H x d) (t:Ci H xs ds):Ci H (x::xs) (d::ds)
end
end L2
namespace L3
open PySem PySem.Spec PyProof.Rows L2
section
variable{X:Cx}{T:Tab}{Ew:XK}{a b e o:Expr}{es:List Expr}{fa fb fo:Ex}{fs:Ax}{pos p0:Pos}
noncomputable def Ga(K:W.Frag):R2:=fun x y H Q=>∃a b ys,x=.ref a∧y=.ref b∧PN K H a []∧PN K H b ys∧Q (.ref b) H
theorem DT:Pa X (binaryOp .Add) (Ga X.K):=by
 intro pins s σ H x y v u Q I rx ry h;obtain⟨p,q,ys,rfl,rfl,hp,hq,k⟩:=h
 cases rx
 cases ry
 obtain⟨its,r1,t1,_⟩:=I.tuple hp;obtain⟨Xd,r2,t2,_⟩:=I.tuple hq;obtain⟨⟨c1,d1,dt1,sl1⟩,g1,rfl,n1,rfl⟩:=id t1;obtain⟨⟨c2,d2,dt2,sl2⟩,g2,rfl,n2,rfl⟩:=id t2;have e0:its= []:=r1.Ss.mpr rfl;exact concat_meets ⟨_,g1,rfl⟩ ⟨_,g2,rfl⟩ noFill_tuple_add seq_tuple_add F.slot_tuple_add F.entry_tuple_add (F.args_tuple_add_2 _ _) (tuple_addW0 p q _ _ n1 n2 d1 d2 sl1 sl2 (by simp[e0])) ⟨g1,g2,.ref q,H,I,rfl,k⟩
def bo(p q:PV)(h:List PO):Res PV:=match p,q with
 |.tup [],.tup b=>.ok (.tup b) h
 |p,q=>AS p q h
theorem yk{K:W.Frag}:dN K T (fun x y H Q=>Ga K x y H Q∨Ah K x y H Q) bo:=by
 intro F m h H x y p q Q Ew R rp rq w;unfold bo at w
 split at w
 ·obtain⟨pa,va,rfl,ea,ra⟩:=eZ R rp;obtain⟨pb,vb,rfl,eb,rb⟩:=eZ R rq
  cases ra
  exact .inl ⟨pa,pb,vb,rfl,rfl,ea,eb,aN w R rq⟩
 ·exact .inr (Av F m h H x y _ _ Q Ew R rp rq w)
theorem aW(ha:RE X T Ew a fa)(hb:RE X T Ew b fb):RE X T Ew (.BinOp a .Add b pos) (c2 bo fa fb):=by with_unfolding_all exact(
  pZ (Pa.or DT DU) yk ha hb)
end
def PO.pure:PO→Bool
 |.lst xs=>ag xs
 |.dct kvs=>aE kvs
 |.G7 _=>true
 |.obj _ ps=>ag ps
def eS:List PO→Bool
 |[]=>true
 |o::r=>o.pure&&eS r
section
variable{K:W.Frag}{T:Tab}{F F1 F2 H H1 H2:Hp}{m m1 m2:List Addr}
theorem iG:∀{h:List PO}{i:Nat}{o:PO},eS h=true→h[i]? =some o→o.pure=true
 |[],_,_,_,e=>by simp at e
 |x::r,0,o,p,e=>by simp only[eS,abk]at p;simp at e;subst e;exact p.1
 |x::r,i+1,o,p,e=>by simp only[eS,abk]at p;exact iG (h:=r) p.2 (by simpa using e)
theorem aP.cut(s:aP F m H F1 m1 H1):aP F m H F1 m H1:=⟨s.fz,⟨[],by simp⟩,s.fr,s.dom,fun i a hi e=>(by rw[List.getElem?_eq_none hi]at e;cases e),s.S_⟩
theorem uW.H_{m':List Addr}{a:Addr}{o:PO}(h:uW K T F m H a o)(p:o.pure=true):uW K T F m' H a o:=by
 cases o with
 |lst xs=>obtain⟨f,vs,e,r⟩:=h;exact⟨f,vs,e,r.H_ p⟩
 |dct kvs=>obtain⟨f,vs,e,k,r⟩:=h;exact⟨f,vs,e,k,r.H_ (by rw[← kr];exact p)⟩
 |G7 q=>obtain⟨r,pq,o,e⟩:=h;exact⟨r.H_ pq,pq,o,e⟩
 |obj C fs=>obtain⟨f,vs,e,k,r⟩:=h;exact⟨f,vs,e,k,r.H_ p⟩
theorem RelH.cut{t:List Addr}{h:List PO}(R:RelH K T F (m++t) h H)(p:eS (h.take m.length)=true):RelH K T F m (h.take m.length) H:=by
 have hl:=R.len;rw[List.length_append]at hl;refine⟨R.same,by rw[List.length_take];omega,fun i o a e1 e2=>?_,(List.nodup_append.mp R.nd).1⟩
 have hi:i<m.length:=by
  rcases Nat.lt_or_ge i m.length with q|q
  ·exact q
  ·rw[List.getElem?_eq_none q]at e2;cases e2
 have pp:=iG p e1;rw[List.getElem?_take_of_lt hi]at e1;exact(R.obj i o a e1 (by rw[List.getElem?_append_left hi];exact e2)).H_ pp
end
noncomputable def Rz(K:W.Frag)(T:Tab)(np:Nat)(fn:List PV→List PO→Res PV):Sp:=fun vs H Q E=>∃F m h ps,ps.length=np∧RelH K T F m h H∧au K T F m ps vs∧aB K T (aF K T) F m H Q E (fn ps h)
theorem mW{K:W.Frag}{T:Tab}{np:Nat}{fn:List PV→List PO→Res PV}{vs:List V}{H:Hp}{Q:VK}{E:XK}(h:Rz K T np fn vs H Q E):vs.length=np:=by obtain⟨F,m,h,ps,e,_,r,_⟩:=h;rw[← r.length];exact e
def BS(n:Nat)(v:PV)(h:List PO):Res PV:=if(eS (h.take n)&&Nat.ble n h.length)=true then .ok v (h.take n)else .bad
def BE(n:Nat)(v:PV)(h:List PO):Res PV:=match eL h v with
 |some (q,h2)=>BS n q h2
 |none=>.bad
def lS(f:Sx)(np n:Nat)(ps:List PV)(h:List PO):Res PV:=if ps.length=np then match f (ps.map some++List.replicate (n - ps.length) none) h with
  |.nx _ h1=>BS h.length .non h1
  |.rt v h1=>BE h.length v h1
  |_=>.bad
 else .bad
section
variable{P:Program}{w:World}{K:W.Frag}{mg:Str→Option Value}{base:Heap}{T:Tab}
theorem iD{N:List Str}{F:Hp}{m:List Addr}{ps:List PV}{vs:List V}(r:au K T F m ps vs):lG K T F m (ps.map some++List.replicate (N.length - ps.length) none) (fL N vs):=by
 unfold L2.fL;have hl:=r.length;refine⟨by simp[hl],fun i p e=>?_⟩;rcases Nat.lt_or_ge i ps.length with hi|hi
 ·rw[List.getElem?_append_left (by simpa using hi),List.getElem?_map]at e
  cases q:ps[i]? with
  |none=>rw[q]at e;cases e
  |some p'=>
   rw[q]at e
   cases e
   obtain⟨v,h1,h2⟩:=r.get q;exact⟨v,by rw[List.getElem?_append_left (by simp;omega),List.getElem?_map,h1];rfl,h2⟩
 ·rw[List.getElem?_append_right (by simpa using hi)]at e;rw[List.getElem?_replicate]at e
  split at e<;>cases e
theorem uN{F H F' H':Hp}{m m':List Addr}{h h1:List PO}{Q:VK}{Ew:XK}{v:PV}{x:V}(R0:RelH K T F m h H)(s:aP F m H F' m' H')(R:RelH K T F' m' h1 H')(r:aF K T F' m' v x)(pv:v.pure=true)
  (w:aB K T (aF K T) F m H Q Ew (BS h.length v h1)):Q x H':=by
 unfold BS at w
 split at w
 ·rename_i z;rw[abk]at z;obtain⟨t,rfl⟩:=s.pre;rw[R0.len]at w z;exact w F' m H' x s.cut (R.cut z.1) (r.H_ pv)
 ·exact w.elim
theorem EW{x qual:Str}{st:Stmt}{f:Addr}{fd:FuncData}{N ps:List Str}{k:Nat}{g:Sx}(Fn:Vp K x qual st f fd)(Sc:dQ N ps (aG st))
  (hb:∀(E_:Value)(A:Around)(outer:List Env)(s:Shared)(H:Hp)(E:XK),aY k (A.deeper (envOfC qual (aG st) s.heap.objs.size f E_))→
   Ud (iW QX P w K mg base N qual (aG st) f E_ A outer s H E).Xu T (fun _ _ _=>False) (bV st) g):
  bK P w K mg base QX (k+1) f fd ps (Rz K T ps.length (lS g ps.length N.length)):=by with_unfolding_all
 refine Fn.ok Sc (fun vs H Q E h=>mW h) fun E_ A outer s H vs Q E hr h=>⟨_,hb E_ A outer s H E hr,?_⟩
 obtain⟨F,m,h,qs,hl,R,r,q⟩:=h;refine⟨F,m,_,h,⟨R,iD r⟩,?_⟩;unfold lS at q;rw[if_pos hl]at q
 cases z:g (qs.map some++List.replicate (N.length - qs.length) none) h with
 |nx ρ h1=>rw[z]at q;exact fun F' m' H' σ' s R'=>uN R s R'.toRelH .non rfl q
 |rt p h1=>
  rw[z]at q;intro F' m' H' x s R' rp;dsimp only[BE]at q
  cases y:eL h1 p with
  |none=>rw[y]at q;exact q.elim
  |some ab=>obtain⟨p2,h2⟩:=ab;rw[y]at q;obtain⟨F2,s2,R2,r2,hp⟩:=gq R' rp y;exact uN R (s.trans s2) R2 r2 hp q
 |bk _ _=>rw[z]at q;exact q.elim
 |ct _ _=>rw[z]at q;exact q.elim
 |exc _ _=>rw[z]at q;exact q.elim
 |bad=>rw[z]at q;exact q.elim
end
noncomputable def Uh:List PV→List Nat
 |[]=>[]
 |.ref i::r=>i::Uh r
 |_::r=>Uh r
noncomputable def U4:Nat→List PV→List PV
 |_,[]=>[]
 |n,.ref _::r=>.ref n::U4 (n+1) r
 |n,p::r=>p::U4 n r
def lZ:List PV→Bool
 |[]=>true
 |.ref _::r=>lZ r
 |p::r=>p.pure&&lZ r
noncomputable def gp(h:List PO):List Nat→Option (List PO)
 |[]=>some []
 |i::r=>match h[i]? with
  |some o=>match gp h r with
   |some l=>some (o::l)
   |none=>none
  |none=>none
noncomputable def dY:List PO→List Nat→List PO→List PO
 |h,i::r,o::l=>dY (h.set i o) r l
 |h,_,_=>h
noncomputable def lY:List Nat→Bool
 |[]=>true
 |i::r=>!r.contains i&&lY r
theorem qf:∀{l:List Nat},lY l=true→l.Nodup
 |[],_=>List.nodup_nil
 |i::r,h=>by simp only[lY,abk,Bool.not_eq_true',List.contains_eq_mem,decide_eq_false_iff_not]at h;exact List.nodup_cons.mpr ⟨h.1,qf h.2⟩
def lE(fn:List PV→List PO→Res PV)(ps:List PV)(h:List PO):Res PV:=match gp h (Uh ps)with
 |some hs=>if(lZ ps&&eS hs&&lY (Uh ps))=true then match fn (U4 0 ps) hs with
   |.ok v U6=>if v.pure=true∧eS U6=true∧U6.length=hs.length then .ok v (dY h (Uh ps) U6)else .bad
   |.exc v U6=>if v.pure=true∧eS U6=true∧U6.length=hs.length then .exc v (dY h (Uh ps) U6)else .bad
   |.bad=>.bad
  else .bad
 |none=>.bad
def fK(fn:List PV→List PO→Res PV)(as:Ax):Ex:=fun ρ h=>(as ρ h).bind (lE fn)
section
variable{K:W.Frag}{T:Tab}{F H:Hp}{m:List Addr}{h:List PO}
theorem rD{pre:List Addr}:∀{ps:List PV}{vs:List V}{as:List Addr}{n:Nat},au K T F m ps vs→lZ ps=true→(Uh ps).map (m[·]?)=as.map some→∀(pre:List Addr),pre.length=n→au K T F (pre++as) (U4 n ps) vs
 |[],_,_,_,.nil,_,_,_,_=>.nil
 |p::r,_,as,n,.cons r1 r2,ok,e,pre,hn=>by
  by_cases hr:∃i,p=.ref i
  ·obtain⟨i,rfl⟩:=hr
   cases as with
   |nil=>simp[Uh]at e
   |cons a as=>
    simp only[Uh,List.map_cons,List.cons.injEq]at e
    cases r1 with
    |ref em=>
     rw[em]at e;obtain⟨e0,e1⟩:=e
     cases e0
     show au K T F _ (.ref n::U4 (n+1) r) _;have q:=rD (pre:=pre) (n:=n+1) r2 (by simpa[lZ]using ok) e1 (pre++ [a]) (by simp[hn]);rw[List.append_assoc,List.singleton_append]at q;exact .cons (.ref (by rw[List.getElem?_append_right (by omega),hn];simp)) q
  ·have h1:Uh (p::r)=Uh r:=by cases p<;>first|rfl|exact(hr ⟨_,rfl⟩).elim
   have h2:U4 n (p::r)=p::U4 n r:=by cases p<;>first|rfl|exact(hr ⟨_,rfl⟩).elim
   have h3:lZ (p::r)=(p.pure&&lZ r):=by cases p<;>first|rfl|exact(hr ⟨_,rfl⟩).elim
   rw[h3,abk]at ok;rw[h1]at e;rw[h2];exact .cons (r1.H_ ok.1) (rD (pre:=pre) r2 ok.2 e pre hn)
theorem kx:∀{is:List Nat}{hs:List PO},gp h is=some hs→hs.length=is.length
 |[],_,e=>by cases e;rfl
 |i::r,hs,e=>by
  unfold gp at e
  split at e
  ·split at e
   ·cases e;rename_i z;simp[kx z]
   ·cases e
  ·cases e
theorem oF:∀{is:List Nat}{hs:List PO}{j:Nat}{o:PO},gp h is=some hs→hs[j]? =some o→∃i,is[j]? =some i∧h[i]? =some o
 |[],_,_,_,e,e2=>by cases e;simp at e2
 |i::r,hs,j,o,e,e2=>by
  unfold gp at e
  split at e
  ·split at e
   ·cases e
    rename_i z1 _ _ z2
    cases j with
    |zero=>simp at e2;subst e2;exact⟨i,rfl,z1⟩
    |succ j=>exact oF (is:=r) (j:=j) z2 (by simpa using e2)
   ·cases e
  ·cases e
theorem Ma(R:RelH K T F m h H):∀{is:List Nat}{hs:List PO},gp h is=some hs→∃as:List Addr,is.map (m[·]?)=as.map some
 |[],_,_=>⟨[],rfl⟩
 |i::r,hs,e=>by
  unfold gp at e
  split at e
  ·split at e
   ·rename_i z1 _ _ z2;obtain⟨as,q⟩:=Ma R z2
    have hi:i<m.length:=by
     rw[← R.len];rcases Nat.lt_or_ge i h.length with z|z
     ·exact z
     ·rw[List.getElem?_eq_none z]at z1;cases z1
    exact⟨m[i]::as,by simp[q,hi]⟩
   ·cases e
  ·cases e
theorem jB{is:List Nat}{as:List Addr}(e:is.map (m[·]?)=as.map some){j:Nat}{a:Addr}(ea:as[j]? =some a):∃i,is[j]? =some i∧m[i]? =some a:=by
 have q:=congrArg (·[j]?) e;simp only[List.getElem?_map,ea,Option.map_some]at q
 cases z:is[j]? with
 |none=>rw[z]at q;simp at q
 |some i=>rw[z]at q;simp at q;exact⟨i,rfl,q⟩
theorem xH(hm:m.Nodup):∀{is:List Nat}{as:List Addr},is.map (m[·]?)=as.map some→is.Nodup→as.Nodup
 |[],[],_,_=>List.nodup_nil
 |[],_::_,e,_=>by simp at e
 |_::_,[],e,_=>by simp at e
 |i::r,a::as,e,h=>by
  simp only[List.map_cons,List.cons.injEq]at e;obtain⟨h1,h2⟩:=List.nodup_cons.mp h;refine List.nodup_cons.mpr ⟨fun z=>?_,xH hm e.2 h2⟩;obtain⟨j,hj⟩:=List.mem_iff_getElem?.mp z;obtain⟨i2,q1,q2⟩:=jB e.2 hj
  have hi:i<m.length:=by
   rcases Nat.lt_or_ge i m.length with z|z
   ·exact z
   ·rw[List.getElem?_eq_none z]at e;cases e.1
  have hi2:i2<m.length:=by
   rcases Nat.lt_or_ge i2 m.length with z|z
   ·exact z
   ·rw[List.getElem?_eq_none z]at q2;cases q2
  have e1:=e.1;rw[List.getElem?_eq_getElem hi,Option.some.injEq]at e1;rw[List.getElem?_eq_getElem hi2,Option.some.injEq]at q2;have:i=i2:=(List.getElem_inj hm).mp (e1.trans q2.symm);subst this;exact h1 (List.mem_of_getElem? q1)
theorem oi:∀(is:List Nat)(hs h:List PO),(dY h is hs).length=h.length
 |[],_,_=>by simp[dY]
 |_::_,[],_=>by simp[dY]
 |i::r,o::l,h=>by simp[dY,oi r l]
theorem iF:∀{is:List Nat}{hs h:List PO}{j:Nat},j∉is→(dY h is hs)[j]? =h[j]?
 |[],_,_,_,_=>by simp[dY]
 |_::_,[],_,_,_=>by simp[dY]
 |i::r,o::l,h,j,n=>by simp only[List.mem_cons,not_or]at n;rw[dY,iF n.2,List.getElem?_set_ne (fun z=>n.1 z.symm)]
theorem qa:∀{is:List Nat}{hs h:List PO}{j i:Nat},is.Nodup→is[j]? =some i→i<h.length→j<hs.length→(dY h is hs)[i]? =hs[j]?
 |[],_,_,_,_,_,e,_,_=>by simp at e
 |_::_,[],_,_,_,_,_,_,q=>by simp at q
 |i0::r,o::l,h,j,i,nd,e,hi,q=>by
  obtain⟨n1,n2⟩:=List.nodup_cons.mp nd
  cases j with
  |zero=>simp at e;subst e;rw[dY,iF n1,List.getElem?_set_self hi];rfl
  |succ j=>rw[dY,qa (j:=j) n2 (by simpa using e) (by simpa using hi) (by simpa using q)];simp
end
section
variable{X:Cx}{T:Tab}{Ew:XK}{e:Expr}{es:List Expr}{fs:Ax}{pos p0:Pos}{k:Nat}{f:Addr}{fd:FuncData}{ps:List Str}{fn:List PV→List PO→Res PV}{x:Str}
theorem wq{F H:Hp}{m:List Addr}{h:List PO}{Q:VK}{K:W.Frag}{np:Nat}{qs:List PV}{vs:List V}(Ri:∀qs hs,fn qs hs≠.bad→qs.length=np)(R:RelH K T F m h H)(r:au K T F m qs vs)(w:aB K T (aF K T) F m H Q Ew (lE fn qs h)):Rz K T np fn vs H Q Ew:=by
 unfold lE at w
 cases z:gp h (Uh qs)with
 |none=>rw[z]at w;exact w.elim
 |some hs=>
  rw[z]at w;dsimp only at w
  split at w
  ·rename_i c;simp only[abk]at c;obtain⟨⟨c1,c2⟩,c3⟩:=c;have nd:=qf c3;obtain⟨as,ea⟩:=Ma R z
   have K3:hs.length=as.length:=by have:=congrArg List.length ea;simp only[List.length_map]at this;rw[kx z,this]
   have nda:=xH R.nd ea nd
   have R1:RelH K T F as hs H:=⟨R.same,K3,fun j o a e1 e2=>by obtain⟨i,q1,q2⟩:=oF z e1;obtain⟨i2,q3,q4⟩:=jB ea e2;rw[q1]at q3;cases q3;exact(R.obj i o a q2 q4).H_ (iG c2 e1),nda⟩
   have r1:au K T F as (U4 0 qs) vs:=by have:=rD (pre:=[]) (n:=0) r c1 ea [] rfl;simpa using this
   have back:∀{U6:List PO}{F' H':Hp}{m':List Addr},eS U6=true→U6.length=hs.length→aP F as H F' m' H'→RelH K T F' m' U6 H'→aP F m H F' m H'∧RelH K T F' m (dY h (Uh qs) U6) H':=by
    intro U6 F' H' m' d2 d3 s R2;obtain⟨t,rfl⟩:=s.pre
    have ht:t= []:=by
     have:=R2.len;rw[d3,K3,List.length_append]at this
     cases t with
     |nil=>rfl
     |cons a b=>simp at this
    subst ht;rw[List.append_nil]at R2 s
    have sub:∀a,a∈as→a∈m:=fun a ha=>by obtain⟨j,hj⟩:=List.mem_iff_getElem?.mp ha;obtain⟨i,_,q⟩:=jB ea hj;exact List.mem_of_getElem? q
    refine⟨⟨s.fz,⟨[],by simp⟩,fun b o hb n=>s.fr b o hb fun q=>n (sub _ q),s.dom,fun i a hi e=>(by rw[List.getElem?_eq_none hi]at e;cases e),fun a o e=>(s.S_ a o e).imp id (Or.imp id (sub a))⟩,?_⟩;refine⟨R2.same,by rw[oi];exact R.len,fun i o a e1 e2=>?_,R.nd⟩
    have him:i<m.length:=by
     rcases Nat.lt_or_ge i m.length with q|q
     ·exact q
     ·rw[List.getElem?_eq_none q]at e2;cases e2
    by_cases hi:i∈Uh qs
    ·obtain⟨j,hj⟩:=List.mem_iff_getElem?.mp hi
     have hjl:j<U6.length:=by
      rw[d3,kx z];rcases Nat.lt_or_ge j (Uh qs).length with q|q
      ·exact q
      ·rw[List.getElem?_eq_none q]at hj;cases hj
     rw[qa nd hj (by rw[R.len];exact him) hjl]at e1;have hja:j<as.length:=by rw[← K3,← d3];exact hjl
     have ej:as[j]? =some a:=by obtain⟨i2,q1,q2⟩:=jB ea (List.getElem?_eq_getElem hja);rw[hj]at q1;cases q1;rw[e2]at q2;rw[List.getElem?_eq_getElem hja,q2]
     exact(R2.obj j o a e1 ej).H_ (iG d2 e1)
    ·rw[iF hi]at e1
     have na:a∉as:=fun q=>by
      obtain⟨j,hj⟩:=List.mem_iff_getElem?.mp q;obtain⟨i2,q1,q2⟩:=jB ea hj
      have hi2:i2<m.length:=by
       rcases Nat.lt_or_ge i2 m.length with q|q
       ·exact q
       ·rw[List.getElem?_eq_none q]at q2;cases q2
      rw[List.getElem?_eq_getElem him,Option.some.injEq]at e2;rw[List.getElem?_eq_getElem hi2,Option.some.injEq]at q2;have:i=i2:=(List.getElem_inj R.nd).mp (e2.trans q2.symm);subst this;exact hi (List.mem_of_getElem? q1)
     have live:∀{u},F a=none→H a=some u→F' a=none:=fun n hu=>by
      cases z:F' a with
      |none=>rfl
      |some o=>
       rcases s.S_ a o z with y|y|y
       ·rw[n]at y;cases y
       ·rw[hu]at y;cases y
       ·exact(na y).elim
     have mono:∀{ps us},au K T F m ps us→au K T F' m ps us:=fun r=>r.mono s.fz fun _ _ h=>h;have q:=R.obj i o a e1 e2
     cases o with
     |lst xs=>obtain⟨f0,ws,z,rr⟩:=q;exact⟨live f0 z,ws,s.fr _ _ z na,mono rr⟩
     |dct xs=>obtain⟨f0,ws,z,kk,rr⟩:=q;exact⟨live f0 z,ws,s.fr _ _ z na,kk,mono rr⟩
     |G7 p'=>obtain⟨r1,r3,o,r4⟩:=q;exact⟨r1.mono s.fz fun _ _ h=>h,r3,o,s.fz _ _ r4⟩
     |obj C fs=>obtain⟨f0,ws,⟨Ca,dx,cu,z,d⟩,kk,rr⟩:=q;exact⟨live f0 z,ws,⟨Ca,dx,cu,s.fr _ _ z na,s.fz _ _ d⟩,kk,mono rr⟩
   have ln:fn (U4 0 qs) hs≠.bad→(U4 0 qs).length=np:=Ri _ _
   cases y:fn (U4 0 qs) hs with
   |bad=>rw[y]at w;exact w.elim
   |exc v U6=>
    rw[y]at w ln;dsimp only at w
    split at w
    ·rename_i d;refine⟨F,as,hs,U4 0 qs,ln (fun z=>by cases z),R1,r1,?_⟩;rw[y];intro F' m' H' cls dx s R2 rx;obtain⟨s3,R3⟩:=back d.2.1 d.2.2 s R2;exact w F' m H' cls dx s3 R3 (rx.H_ d.1)
    ·exact w.elim
   |ok v U6=>
    rw[y]at w ln;dsimp only at w
    split at w
    ·rename_i d;refine⟨F,as,hs,U4 0 qs,ln (fun z=>by cases z),R1,r1,?_⟩;rw[y];intro F' m' H' x s R2 rx;obtain⟨s3,R3⟩:=back d.2.1 d.2.2 s R2;exact w F' m H' x s3 R3 (rx.H_ d.1)
    ·exact w.elim
  ·exact w.elim
theorem KQ{X:Cx}{E:XK}:cg QX X E:=fun _ _ _ _ _ _ _ h=>h.elim
theorem Aa{CX:Vq}(F:bK X.prog X.w X.K X.mg X.base CX k f fd ps (Rz X.K T ps.length fn))(Ri:∀qs hs,fn qs hs≠.bad→qs.length=ps.length)(hp:cg CX X Ew)(hr:aY k X.A)(hg:Gl X x)(hm:X.mg x=some (.ref f))(hk:W.keepIn X.K (.ref f)=true)(hb:bC X.K fd ps [])
  (ha:RA X T Ew (e::es) fs) (PJ:nD0 x:=by decide)(he:sE0 X e es:=by rfl) (J3:sP0 X es pos:=by rfl):
  RE X T Ew (.Call (.Name x p0) (e::es) [] pos) (fK fn fs):=by with_unfolding_all
 refine PE.imp (rQ F hr hg hm hk hb .nil hp ha PJ he J3) ?_;rintro σ H Q ⟨F,m,ρ,h,R,p⟩;refine⟨F,m,ρ,h,R,(aB.bind p).mono ?_⟩;rintro vs H1 ⟨F1,m1,h1,qs,s1,R1,r1,w1⟩
 rw[List.append_nil];exact wq Ri R1 r1 w1
theorem zZ(F:bK X.prog X.w X.K X.mg X.base QX k f fd ps (Rz X.K T ps.length fn))(Ri:∀qs hs,fn qs hs≠.bad→qs.length=ps.length)(hr:aY k X.A)(hg:Gl X x)(hm:X.mg x=some (.ref f))(hk:W.keepIn X.K (.ref f)=true)(hb:bC X.K fd ps [])
  (ha:RA X T Ew (e::es) fs) (PJ:nD0 x:=by decide)(he:sE0 X e es:=by rfl) (J3:sP0 X es pos:=by rfl):
  RE X T Ew (.Call (.Name x p0) (e::es) [] pos) (fK fn fs):=Aa F Ri KQ hr hg hm hk hb ha PJ he J3
theorem tB{f:Sx}{np n:Nat}:∀qs hs,lS f np n qs hs≠.bad→qs.length=np:=fun qs hs e=>by
 unfold lS at e
 split at e
 ·assumption
 ·exact absurd rfl e
end
abbrev WL:=List PV→Ev→Option Ev
@[irreducible] def Z7(X:Cx)(T:Tab)(es:List Expr)(g:WL):Prop:=WD X es (fun vs σ H Q=>∃F m ρ h ps ρ',gD X.K T F m ρ h σ H∧au X.K T F m ps vs∧g ps ρ=some ρ'∧∀ σ',lG X.K T F m ρ' σ'→Q σ' H)
noncomputable def mD:WL:=fun ps ρ=>match ps with
 |[]=>some ρ
 |_=>none
noncomputable def ck(g:Gx)(gs:WL):WL:=fun ps ρ=>match ps with
 |p::r=>match g p ρ with
  |some ρ1=>gs r ρ1
  |none=>none
 |[]=>none
noncomputable def ZX(n:Nat)(gs:WL):Gx:=fun p ρ=>match p with
 |.tup ps=>if ps.length=n then gs ps ρ else none
 |_=>none
def CU(g:Gx)(f:Ex):Sx:=fun ρ h=>dA (f ρ h) fun v h1=>match g v ρ with
 |some ρ1=>.nx ρ1 h1
 |none=>.bad
section
variable{X:Cx}{T:Tab}{Ew:XK}{e tg:Expr}{es:List Expr}{f:Ex}{g:Gx}{gs:WL}{pos:Pos}
theorem PG.imp{t t':TG}(h:PG X e t)(i:∀v σ H Q,t' v σ H Q→t v σ H Q):PG X e t':=fun pins s σ H v u Q I r q=>h pins s σ H v u Q I r (i _ _ _ _ q)
theorem WD.imp{t t':W6}(h:WD X es t)(i:∀v σ H Q,t' v σ H Q→t v σ H Q):WD X es t':=fun pins s σ H v u Q I r q=>h pins s σ H v u Q I r (i _ _ _ _ q)
theorem nh:Z7 X T [] mD:=by with_unfolding_all
 refine WD.imp Dz ?_;rintro vs σ H Q ⟨F,m,ρ,h,ps,ρ',R,r,e,q⟩
 cases r with
 |nil=>cases e;exact⟨rfl,q _ R.env⟩
 |cons _ _=>cases e
theorem bQ(h1:RG X T e g)(h2:Z7 X T es gs)(hs:(assignEach (e::es) X.env).map (·.2)=assign e X.env::(assignEach es X.env).map (·.2):=by rfl):Z7 X T (e::es) (ck g gs):=by with_unfolding_all
 refine WD.imp (AD h1 h2 hs) ?_;rintro vs σ H Q ⟨F,m,ρ,h,ps,ρ',R,r,e,q⟩
 cases r with
 |nil=>cases e
 |@cons p v r vr r1 r2=>
  have e:(match g p ρ with|some ρ1=>gs r ρ1|none=>none)=some ρ':=e
  cases z:g p ρ with
  |none=>rw[z]at e;cases e
  |some ρ1=>rw[z]at e;exact⟨v,vr,rfl,F,m,ρ,h,p,ρ1,R,r1,z,fun σ1 R1=>⟨F,m,ρ1,h,r,ρ',⟨R.toRelH,R1⟩,r2,e,q⟩⟩
theorem zR{n k:Nat}(h:Z7 X T es gs)(hc:X.calm=true:=by rfl)(hn:(assignEach es X.env).length=n:=by rfl)(Rh:(assignEach es X.env).findIdx? (·.1)=none:=by rfl):RG X T (.Tuple es k pos) (ZX n gs):=by with_unfolding_all
 refine PG.imp (Hr hc h hn Rh) ?_;rintro v σ H Q ⟨F,m,ρ,h,p,ρ',R,r,e,q⟩
 cases r with
 |@tup ps a vs sq rr=>
  have e:(if ps.length=n then gs ps ρ else none)=some ρ':=e
  split at e
  ·rename_i hl;exact⟨a,vs,rfl,R.same.QB sq,by rw[← rr.length];exact hl,F,m,ρ,h,ps,ρ',R,rr,e,q⟩
  ·cases e
 |_=>cases e
theorem zP(ha:RE X T Ew e f)(hg:RG X T tg g)(hs:swapsWithSole [tg] e pos.line X.env=pure false:=by rfl)(hw:swappedStores [tg] e X.env=pure none:=by rfl)
  (h1:(assignEach [tg] X.env).map (·.2)=[assign tg X.env]:=by rfl):RS X T Ew (.Assign [tg] e pos) (CU g f):=by with_unfolding_all
 refine PS.imp (Ap ha hg hs hw h1) ?_;rintro D σ H ⟨F,m,ρ,h,R,p⟩;refine⟨F,m,ρ,h,R,(dZ p).mono ?_⟩;rintro v H1 ⟨F1,m1,h1,q,s1,R1,r1,w1⟩
 cases z:g q ρ with
 |none=>rw[z]at w1;exact w1.elim
 |some ρ1=>rw[z]at w1;exact⟨F1,m1,ρ,h1,q,ρ1,R.of s1 R1,r1,z,fun σ1 E1=>w1 F1 m1 H1 σ1 .refl ⟨R1,E1⟩⟩
end
end L3
namespace L2
open PySem PySem.Spec PyProof.Rows
section
variable{prog:Program}{w:World}{A:Around}{E:Value→Shared→Prop}{s:Shared}{it t:Addr}{i:Nat}{items:Array Value}
theorem ub{Q:Value→Shared→Prop}(hit:s.heap.IsTupleIter it t i)
  (go:wpAny (model prog w) A.in1 (Builtin.«tuple_iterator.__next__» ⟨[.ref it],[]⟩) (fun fin s'=>∃v,fin=.done (.ret v)∧Q v s') E s):wpAny (model prog w) A (Builtin.SmallTypes.nextOf (.ref it)) Q E s:=by
 have ty:=hit.typeIs;have c:=wpAny_callSpecial?_slot (E:=E) (name:="__next__") (Q:=fun r s'=>∃v,r=some v∧Q v s') ty F.slot_tuple_iterator_next (wpAny_call_entry F.slot_tuple_iterator_next ty F.entry_tuple_iterator_next (wpAny_mono go ((by rintro fin s' ⟨v,e,q⟩;exact ⟨v,e,v,rfl,q⟩)) fun _ _ z=>z) (F.args_tuple_iterator_next_1 _));unfold Builtin.SmallTypes.nextOf;exact wpAny_bind (wpAny_mono c ((by rintro r s' ⟨v,e,q⟩;subst e;exact wpAny_pure q)) fun _ _ z=>z)
theorem xW{x:Value}{Q:Value→Shared→Prop}(hit:s.heap.IsTupleIter it t i)(ht:s.heap.IsTuple t items)(hx:items[i]? =some x)(hQ:∀h',h'.IsTupleIter it t (i+1)→Heap.SameBut it s.heap h'→Q x { s with heap:=h' }):
  wpAny (model prog w) A (Builtin.«tuple_iterator.__next__» ⟨[.ref it],[]⟩) (fun fin s'=>∃v,fin=.done (.ret v)∧Q v s') E s:=by
 obtain⟨o,ho,hc,hd⟩:=id hit;obtain⟨p,hp,_,n,hdp⟩:=ht;have nn:¬ ((Value.ref t==Value.none)=true):=Bool.false_ne_true;refine(show wpAny (model prog w) A (field (.ref it) 0 >>= _) _ E s from wpAny_bind (wpAny_field ho hd (x:=.ref t) rfl ?_));refine(show wpAny (model prog w) A (if(Value.ref t==Value.none)=true then _ else _) _ E s from ?_);rw[if_neg nn];refine(show wpAny (model prog w) A (field (.ref it) 1 >>= _) _ E s from wpAny_bind (wpAny_field ho hd (x:=.int i 0) rfl ?_));refine(show wpAny (model prog w) A (seqItems? (.ref t) >>= _) _ E s from wpAny_bind (wpAny_seqItems hp hdp ?_));simp only[Int.toNat_natCast,hx];have st:∀f,(o.mapFields f).data=.fields (f #[.ref t,.int i 0]):=fun f=>Obj.data_mapFields hd f;refine wpAny_bind (wpAny_setField ho hd (by simp) (wpAny_pure ⟨x,rfl,hQ _ ⟨_,Heap.get?_update_self _ ho (Obj.isFreed_of_fields (Obj.data_mapFields hd _)),?_,?_⟩ (Heap.SameBut.update ..)⟩))
 ·rw[Obj.cls_mapFields];exact hc
 ·rw[Obj.data_mapFields hd];simp[rawInt]
theorem zQ{Q:Fin→Shared→Prop}(hh:A.handled=none)(hit:s.heap.IsTupleIter it t i)(ht:s.heap.IsTuple t items)(hx:items[i]? =none)
  (hE:∀h' e,Heap.ExtBut it s.heap h'→(∃o,h'.get? e=some o∧o.cls=.type "StopIteration")→E (.ref e) { s with heap:=h' }):
  wpAny (model prog w) A (Builtin.«tuple_iterator.__next__» ⟨[.ref it],[]⟩) Q E s:=by
 obtain⟨o,ho,hc,hd⟩:=id hit;obtain⟨p,hp,_,n,hdp⟩:=ht;have nn:¬ ((Value.ref t==Value.none)=true):=Bool.false_ne_true;refine(show wpAny (model prog w) A (field (.ref it) 0 >>= _) _ E s from wpAny_bind (wpAny_field ho hd (x:=.ref t) rfl ?_));refine(show wpAny (model prog w) A (if(Value.ref t==Value.none)=true then _ else _) _ E s from ?_);rw[if_neg nn];refine(show wpAny (model prog w) A (field (.ref it) 1 >>= _) _ E s from wpAny_bind (wpAny_field ho hd (x:=.int i 0) rfl ?_));refine(show wpAny (model prog w) A (seqItems? (.ref t) >>= _) _ E s from wpAny_bind (wpAny_seqItems hp hdp ?_));simp only[Int.toNat_natCast,hx];refine wpAny_bind (wpAny_rule (wpAny_bind (wpAny_setField ho hd (by simp) (wpAny_bind ?_))));simp only[newExc,newTuple];refine wpAny_bind (wpAny_newObj_type (wpAny_bind (m:=firstArgMember _ _) (wpAny_of_eq (a:=Value.none) (by first|rfl|(simp only[firstArgMember];rfl)) (wpAny_newObj_type ?_ (by size_fits)))) (by size_fits));simp only[raiseNew];refine wpAny_bind (wpAny_handled ?_);rw[hh];exact wpAny_bind (wpAny_pure (wpAny_throw (hE _ _ (((Heap.SameBut.update ..).extBut.push _).push _) ⟨_,Heap.get?_push_size _ rfl,rfl⟩)))
theorem Jl(hh:A.handled=none)(ne:t≠it):Draws prog w A.in1 it [it,t] items.size (fun j v=>items[j]? =some v) (fun j h=>h.IsTupleIter it t j∧h.IsTuple t items) where
 live:=fun j h st=>by obtain⟨o,ho,_⟩:=st.1;exact⟨o,ho⟩
 frame:=fun j h h' st k=>by obtain⟨⟨o,ho,r⟩,⟨p,hp,q⟩⟩:=st;exact⟨⟨o,k _ (by simp) o ho,r⟩,⟨p,k _ (by simp) p hp,q⟩⟩
 item:=fun j s Q E hj st hQ=>ub st.1 (xW st.1 st.2 (x:=items[j]) (by simp[hj]) fun h' Ug sb=>hQ _ h' s.toks (by simp[hj]) ⟨Ug,st.2.extBut sb.extBut ne⟩ sb)
 done:=fun s Q E st hE=>ub st.1 (zQ (A:=A.in1.in1) hh st.1 st.2 (by simp) hE)
noncomputable def uG(a:Addr):Obj:={ cls:=.type "enumerate",data:=.fields #[.none,.bool false,.ref a,rawInt 0,.none,.none] }
noncomputable def ij(a:Addr):Obj:={ cls:=.type "tuple_iterator",data:=.fields #[.ref a,.int 0 0] }
theorem yE(a:Addr)(xs:Array Value)(o:Obj)(hc:o.cls=.type "tuple")(n:Nat)(hd:o.data=.seq xs n):Meets (Builtin.«enumerate.__new__» ⟨[.type "enumerate",.ref a],[]⟩) (fun _ R s=>s.heap.get? a=some o∧
   R (.ok (.ret (.ref (s.heap.push (ij a)).objs.size))) { s with heap:=(s.heap.push (ij a)).push (uG s.heap.objs.size) }):=
 .of_wp fun P1 w1 A1 R s ⟨hl,h⟩=>by
  cases s with
  |mk hp gs dd tk os=>
  have sub:=sub_enumerate;have tt:Heap.IsTuple hp a xs:=⟨o,hl,hc,n,hd⟩
  wp_walk using AutoSeq1.wpAny_loadPart' hl
  refine wpAny_stack_any fun st=>wpAny_pure ?_
  split
  ·rename_i c _ _ _ _ _
   by_cases e:(c==Value.type "enumerate")=true
   ·rw[e];wp_walk using AutoSeq1.wpAny_loadPart' hl,wpAny_pyIter_tuple tt;exact⟨_,rfl,h⟩
   ·rw[Bool.not_eq_true]at e;rw[e];wp_walk using AutoSeq1.wpAny_loadPart' hl,wpAny_pyIter_tuple tt;exact⟨_,rfl,h⟩
  ·wp_walk using AutoSeq1.wpAny_loadPart' hl,wpAny_pyIter_tuple tt;exact⟨_,rfl,h⟩
theorem wn{Q:Value→Shared→Prop}(ht:s.heap.IsTuple t items)(h:Q (.ref (s.heap.objs.size+1)) { s with heap:=(s.heap.push (ij t)).push (uG s.heap.objs.size) }):wpAny (model prog w) A (call (.type "enumerate") [.ref t]) Q E s:=by obtain⟨o,ho,hc,n,hd⟩:=ht;have z:(s.heap.push (ij t)).objs.size=s.heap.objs.size+1:=Heap.size_push ..;have g:=Heap.get?_push_size (s.heap.push (ij t)) (o:=uG s.heap.objs.size) rfl;refine callType_new F.called_enumerate (by decide) (F.typeCall_enumerate_1 _) (F.newCall_enumerate_1 _) (fun obj=>F.args_object_init_2 obj _) F.entry_enumerate_new (yE t items o hc n hd) ⟨ho,?_⟩;exact⟨⟨_,g,rfl⟩,by rw[z];exact h⟩
end
section
variable{X:Cx}{pins:List (Addr×Obj)}{σ:St}{H:Hp}{s:Shared}{h':Heap}
theorem Inv.W8{t':Nat}{c d:Addr}(I:Inv X pins σ H s)(k:∀b o,b≠c→b≠d→s.heap.get? b=some o→h'.get? b=some o)(fc:iX X pins H c)(fd:iX X pins H d):Inv X pins σ H { s with heap:=h',toks:=t' }:=by
 have k2:∀b o,b∉ [c,d]→s.heap.get? b=some o→h'.get? b=some o:=fun b o hb e=>k b o (fun z=>hb (by simp[z])) (fun z=>hb (by simp[z])) e
 have nt:∀b u,H b=some u→b∉ [c,d]:=fun b u e z=>by
  rcases List.mem_cons.mp z with z|z
  ·rw[z,fc.1]at e;cases e
  ·rw[List.mem_singleton.mp z,fd.1]at e;cases e
 have nl:X.env.locals∉ [c,d]:=fun z=>by
  rcases List.mem_cons.mp z with z|z
  ·exact fc.2.1 z.symm
  ·exact fd.2.1 (List.mem_singleton.mp z).symm
 refine I.step (g':=s.gens) (d':=s.drawn) (ch:=[c,d]) (fun b hb=>?_) (fun b o _ _ hc e _=>k2 b o hc e) (fun b o _ _ hc e _=>⟨o.slots,k2 b o hc e⟩) (fun _ _ _ _ n=>n)
  (fun b o hc e=>⟨o,k2 b o hc e⟩) (fun _ _ e=>e) (fun _ _ _ e=>e) (fun b ps e=>⟨#[],by rw[e];simp⟩) (fun m hm=>?_) (fun b u e=>?_) I.bare
 ·rcases List.mem_cons.mp hb with z|z
  ·subst z;exact⟨fc.2.2.2.1,fc.2.1,fc.2.2.2.2.1,fc.2.2.2.2.2⟩
  ·rw[List.mem_singleton.mp z];exact⟨fd.2.2.2.1,fd.2.1,fd.2.2.2.2.1,fd.2.2.2.2.2⟩
 ·obtain⟨o,es,ep,ho,r⟩:=hm;exact⟨o,es,ep,k2 _ o nl ho,r⟩
 ·refine(I.hok b u e).stay (fun c v hc q=>k2 c v ?_ q) (fun _ q=>q) fun _ _ q=>q;rcases hc with z|z
  ·rw[z];exact nt b u e
  ·exact nt c _ z
theorem Inv.Wa{t':Nat}{c d a:Addr}{o:HO}(I:Inv X pins σ H s)(k:∀b o,b≠c→b≠d→s.heap.get? b=some o→h'.get? b=some o)(fc:iX X pins H c)(fd:iX X pins H d)(hp:s.heap.objs.size≤a)(new:bq X.prog X.w (upd H a o) h' a o):
  Inv X pins σ (upd H a o) { s with heap:=h',toks:=t' }:=by
 have hn:H a=none:=I.hok.fresh hp;have k2:∀b o,b∉ [c,d]→s.heap.get? b=some o→h'.get? b=some o:=fun b o hb e=>k b o (fun z=>hb (by simp[z])) (fun z=>hb (by simp[z])) e
 have nt:∀b u,H b=some u→b∉ [c,d]:=fun b u e z=>by
  rcases List.mem_cons.mp z with z|z
  ·rw[z,fc.1]at e;cases e
  ·rw[List.mem_singleton.mp z,fd.1]at e;cases e
 have nl:X.env.locals∉ [c,d]:=fun z=>by
  rcases List.mem_cons.mp z with z|z
  ·exact fc.2.1 z.symm
  ·exact fd.2.1 (List.mem_singleton.mp z).symm
 refine I.step (g':=s.gens) (d':=s.drawn) (ch:=[c,d]) (fun b hb=>?_) (fun b o _ _ hc e _=>k2 b o hc e) (fun b o _ _ hc e _=>⟨o.slots,k2 b o hc e⟩) (fun b ob _ q n=>by rw[aj (Nat.ne_of_lt (Nat.lt_of_lt_of_le (Heap.lt_size q) hp))];exact n)
  (fun b o hc e=>⟨o,k2 b o hc e⟩) (fun b xs q=>by rw[aj (ar q hn)];exact q) (fun b u xs q=>by rw[aj (ar q hn)];exact q) (fun b ps q=>⟨#[],by rw[aj (ar q hn),q];simp⟩) (fun m hm=>?_) (fun b u e=>?_) I.bare
 ·rcases List.mem_cons.mp hb with z|z
  ·subst z;exact⟨fc.2.2.2.1,fc.2.1,fc.2.2.2.2.1,fc.2.2.2.2.2⟩
  ·rw[List.mem_singleton.mp z];exact⟨fd.2.2.2.1,fd.2.1,fd.2.2.2.2.1,fd.2.2.2.2.2⟩
 ·obtain⟨o,es,ep,ho,r⟩:=hm;exact⟨o,es,ep,k2 _ o nl ho,r⟩
 ·by_cases hb:b=a
  ·subst hb;rw[aA]at e;cases e;exact new
  ·rw[aj hb]at e;refine(I.hok b u e).stay (fun c v hc q=>k2 c v ?_ q) (fun c q=>by rw[aj (ar q hn)];exact q) fun c xs q=>by rw[aj (ar q hn)];exact q
   rcases hc with z|z
   ·rw[z];exact nt b u e
   ·exact nt c _ z
end
def Ite(sq:Hp→List V→Prop):It:=
 ⟨fun i H=>∃xs x,sq H xs∧xs[i]? =some x,fun i H x H'=>∃p y,H p=none∧x=.ref p∧H'=upd H p (.tup [.int i,y])∧∀xs,sq H xs→xs[i]? =some y,fun i H=>∃xs,sq H xs∧xs.length=i⟩
section
variable{P:Program}{w:World}{K:W.Frag}{elts:List Expr}{k:Nat}{pos:Pos}
structure Src(P:Program)(w:World)(K:W.Frag)(a it:Addr)(sq:Hp→List V→Prop)(ii:Nat→Heap→Prop):Prop where
 obj:∀j h,ii j h→∃o,h.get? it=some o∧∀v,o.data≠.cell v
 keep:∀j h h',ii j h→(∀o,h.get? it=some o→h'.get? it=some o)→ii j h'
 inj:∀(X:Cx) pins σ H s xs ys,X.K=K→Inv X pins σ H s→sq H xs→sq H ys→xs=ys
 get:∀(X:Cx) pins σ H s xs,X.prog=P→X.w=w→X.K=K→X.calm=true→Inv X pins σ H s→sq H xs→∃(its:List Value)(St:Nat→Heap→Prop),aL xs its∧Draws P w X.A.in1 it [it,a] its.length (fun j v=>its[j]? =some v) St∧(∀j,ii j s.heap→St j s.heap)∧∀j h,St j h→ii j h
theorem qY{a it:Addr}(n2:a≠it):Src P w K a it (fun H xs=>PN K H a xs) (fun j h=>h.IsTupleIter it a j) where
 obj:=(by rintro j h ⟨o,ho,c,d⟩;exact ⟨o,ho,fun v z=>by rw[d]at z;cases z⟩)
 keep:=(by rintro j h h' ⟨o,ho,r⟩ k;exact ⟨o,k o ho,r⟩)
 inj:=fun X pins σ H s xs ys hK I h1 h2=>by subst hK;exact I.Tf h1 h2
 get:=fun X pins σ H s xs hP hw hK hc I hq=>by subst hP hw hK;obtain⟨its,rv,p,hz⟩:=I.tuple hq;exact⟨its,(fun j h=>h.IsTupleIter it a j∧h.IsTuple a its.toArray),rv,by simpa using Jl (items:=its.toArray) (I.ok.hd hc) n2,fun j q=>⟨q,p⟩,fun j h q=>q.1⟩
theorem CM{a it:Addr}(n2:a≠it):Src P w K a it (fun H xs=>O4 K H a xs) (fun j h=>h.IsListIter it a j) where
 obj:=(by rintro j h ⟨o,ho,c,d⟩;exact ⟨o,ho,fun v z=>by rw[d]at z;cases z⟩)
 keep:=(by rintro j h h' ⟨o,ho,r⟩ k;exact ⟨o,k o ho,r⟩)
 inj:=fun X pins σ H s xs ys hK I h1 h2=>by subst hK;exact I.Uw h1 h2
 get:=fun X pins σ H s xs hP hw hK hc I hq=>by subst hP hw hK;obtain⟨its,rv,p,hz⟩:=I.list hq;exact⟨its,(fun j h=>h.IsListIter it a j∧h.IsList a its.toArray),rv,by simpa using Draws.list (A:=X.A.in1) (I.ok.hd hc) it a n2 its.toArray,fun j q=>⟨q,p.isList⟩,fun j h q=>q.1⟩
theorem pS{sq:Hp→List V→Prop}{ii:Nat→Heap→Prop}{a e it:Addr}(S:Src P w K a it sq ii)(ne:e≠it)(n1:a≠e):uV P w K (.Tuple elts k pos) (Ite sq) [e,it] e (fun i h=>(∃old,IsEnum h e it i old)∧ii i h) where
 mem:=by simp
 obj:=fun i h st b hb=>by
  obtain⟨⟨old,he⟩,hi⟩:=st;rcases List.mem_cons.mp hb with z|z
  ·subst z;exact⟨_,he,fun v z=>by cases z⟩
  ·rw[List.mem_singleton.mp z];exact S.obj _ _ hi
 keep:=fun i h h' st q=>by obtain⟨⟨old,he⟩,hi⟩:=st;exact⟨⟨old,q e (by simp) _ he⟩,S.keep _ _ _ hi fun o ho=>q it (by simp) _ ho⟩
 item:=by
  intro X hP hw hK hc i pins s σ H E I hf st hg;obtain⟨xs,x,hq,hx⟩:=hg;obtain⟨⟨old,he⟩,hi⟩:=st;obtain⟨its,St,rv,D,t1,t2⟩:=S.get X pins σ H s xs hP hw hK hc I hq;subst hP hw hK;obtain⟨u,hu,ru⟩:=rv.get hx;have fe:=hf e (by simp);have fi:=hf it (by simp)
  have U7:i<its.length:=by
   rcases Nat.lt_or_ge i its.length with z|z
   ·exact z
   ·rw[List.getElem?_eq_none z]at hu;cases hu
  refine wpAny_pyNext_enum_itemD D he (t1 _ hi) U7 ne (by simp[ne,Ne.symm n1]) fun u' h' tk Xx ho Uy ht hsz hk=>?_;have:u'=u:=by rw[hu]at Xx;cases Xx;rfl
  subst this;refine⟨_,rfl,?_⟩;refine wpAny_letOwnedTupleGo_enum ho fun h2 he2 sb=>?_;have lt:e<s.heap.objs.size:=Heap.lt_size he;have fr:H s.heap.objs.size=none:=I.hok.fresh (abl _);have kk:∀b o,b≠e→b≠it→s.heap.get? b=some o→h2.get? b=some o:=fun b o b1 b2 q=>(sb.2 b b1).trans (hk b o b1 b2 q);have ht2:h2.get? s.heap.objs.size=some { cls:=.type "tuple",data:=.seq #[.int i tk,u'] }:=(sb.2 _ (Nat.ne_of_gt lt)).trans ht;have hok:bq X.prog X.w (upd H s.heap.objs.size (.tup [.int i,x])) h2 s.heap.objs.size (.tup [.int i,x]):=⟨by show 2≤sizeLine;decide,[.int i tk,u'],.cons ⟨tk,rfl⟩ (.cons ru .nil),⟨_,ht2,rfl,_,rfl⟩⟩
  refine⟨.ref s.heap.objs.size,upd H s.heap.objs.size (.tup [.int i,x]),I.Wa kk fe fi (abl _) hok,rfl,⟨_,x,fr,rfl,rfl,fun ys hy=>by rw[S.inj X pins σ H s _ _ rfl I hy hq];exact hx⟩,⟨⟨u',by simpa using he2⟩,S.keep _ _ _ (t2 _ _ Uy) fun o q=>(sb.2 it (Ne.symm ne)).trans q⟩,fun b hb=>?_⟩
  rw[aj (fun z=>by
   have lb:b<s.heap.objs.size:=by
    rcases List.mem_cons.mp hb with y|y
    ·rw[y];exact lt
    ·rw[List.mem_singleton.mp y];obtain⟨o,ho,_⟩:=S.obj _ _ hi;exact Heap.lt_size ho
   exact absurd z (Nat.ne_of_lt lb))]
  exact(hf b hb).1
 done:=by
  intro X hP hw hK hc i pins s σ H E I hf st hg;obtain⟨xs,hq,hx⟩:=hg;obtain⟨⟨old,he⟩,hi⟩:=st;obtain⟨its,St,rv,D,t1,t2⟩:=S.get X pins σ H s xs hP hw hK hc I hq;subst hP hw hK;have fe:=hf e (by simp);have fi:=hf it (by simp);have hl:=rv.length;have sz:its.length=i:=by omega
  subst sz;exact wpAny_pyNext_enum_endD D he (t1 _ hi) fun h' eb=>⟨rfl,I.W8 (t':=s.toks) (fun b o _ b2 q=>eb b o b2 q) fe fi⟩
 self:=fun A i s Q E st h=>by obtain⟨⟨old,he⟩,_⟩:=st;exact wpAny_pyIter_enum he h
end
section
variable{X:Cx}{elts:List Expr}{k:Nat}{pos p p1:Pos}
def Nz(K:W.Frag)(ta:TA):TI:=fun σ H R=>ta σ H fun vs H1=>∃a,vs= [.ref a]∧(∃xs,PN K H1 a xs)∧R (Ite fun H xs=>PN K H a xs) H1
def NA(K:W.Frag)(ta:TA):TI:=fun σ H R=>ta σ H fun vs H1=>∃a,vs= [.ref a]∧(∃xs,O4 K H1 a xs)∧R (Ite fun H xs=>O4 K H a xs) H1
theorem AB{a:Expr}{ta:TA}(hg:Gl X "enumerate")(hm:X.mg "enumerate"=none)(ha:PA X [a] ta)(hs:starEach [a] X.env= [(false,eval a X.env)]:=by rfl):PI X (.Tuple elts k pos) (.Call (.Name "enumerate" p) [a] [] p1) (Nz X.K ta):=by
 intro pins s σ H R I h;refine Call_ (gm I hg hm (show bootBuiltins "enumerate"=some (.type "enumerate") by decide+kernel) (PyProof.Rows.callWith_type1 (G4 (ha p1 pins s σ H _ I h) ?_) hs rfl));rintro us s1 ⟨vs,H1,I1,r1,q1⟩;obtain⟨a,e,⟨xs,hq⟩,q⟩:=q1;subst e
 cases r1 with
 |cons r rr=>
  cases rr
  cases r
  obtain⟨its,rv,t,hz⟩:=I1.tuple hq;refine wn (show s1.heap.IsTuple a its.toArray from t) ?_;have z:(s1.heap.push (ij a)).objs.size=s1.heap.objs.size+1:=Heap.size_push ..;have g:=Heap.get?_push_size (s1.heap.push (ij a)) (o:=uG s1.heap.objs.size) rfl;rw[z]at g;have kk:∀b o,s1.heap.get? b=some o→((s1.heap.push (ij a)).push (uG s1.heap.objs.size)).get? b=some o:=fun b o e=>Heap.get?_push_of_some _ (Heap.get?_push_of_some _ e);have la:a<s1.heap.objs.size:=by obtain⟨o,ho,_⟩:=t;exact Heap.lt_size ho
  refine wpAny_pyIter_enum (it:=s1.heap.objs.size) (i:=0) (old:=.none) g ?_;refine⟨s1.heap.objs.size+1,[s1.heap.objs.size+1,s1.heap.objs.size],_,_,H1,rfl,I1.kept (t':=s1.toks) kk,pS (qY (a:=a) (Nat.ne_of_lt la)) (Nat.succ_ne_self _) (Nat.ne_of_lt (Nat.lt_succ_of_lt la)),⟨⟨_,g⟩,⟨_,Heap.get?_push_of_some _ (Heap.get?_push_size _ rfl),rfl,rfl⟩⟩,fun b hb=>?_,q⟩
  have U8:s1.heap.objs.size≤b:=by
   rcases List.mem_cons.mp hb with y|y
   ·rw[y];exact Nat.le_succ _
   ·rw[List.mem_singleton.mp y];exact abl _
  exact I1.T8 U8 (I1.hok.fresh U8)
theorem AC{a:Expr}{ta:TA}(hg:Gl X "enumerate")(hm:X.mg "enumerate"=none)(ha:PA X [a] ta)(hs:starEach [a] X.env= [(false,eval a X.env)]:=by rfl):PI X (.Tuple elts k pos) (.Call (.Name "enumerate" p) [a] [] p1) (NA X.K ta):=by
 intro pins s σ H R I h;refine Call_ (gm I hg hm (show bootBuiltins "enumerate"=some (.type "enumerate") by decide+kernel) (PyProof.Rows.callWith_type1 (G4 (ha p1 pins s σ H _ I h) ?_) hs rfl));rintro us s1 ⟨vs,H1,I1,r1,q1⟩;obtain⟨a,e,⟨xs,hq⟩,q⟩:=q1;subst e
 cases r1 with
 |cons r rr=>
  cases rr
  cases r
  obtain⟨its,rv,t,hz⟩:=I1.list hq;have t:=t.isList;have la:a<s1.heap.objs.size:=by obtain⟨o,ho,_⟩:=t;exact Heap.lt_size ho
  refine call_enumerate_list t fun h2 hE hI hsz kk=>?_;refine wpAny_pyIter_enum hE ?_;refine⟨s1.heap.objs.size+1,[s1.heap.objs.size+1,s1.heap.objs.size],_,_,H1,rfl,I1.kept (t':=s1.toks) kk,pS (CM (a:=a) (Nat.ne_of_lt la)) (Nat.succ_ne_self _) (Nat.ne_of_lt (Nat.lt_succ_of_lt la)),⟨⟨_,hE⟩,hI⟩,fun b hb=>?_,q⟩
  have U8:s1.heap.objs.size≤b:=by
   rcases List.mem_cons.mp hb with y|y
   ·rw[y];exact Nat.le_succ _
   ·rw[List.mem_singleton.mp y];exact abl _
  exact I1.T8 U8 (I1.hok.fresh U8)
end
end L2
namespace L3
open PySem PySem.Spec PyProof.Rows L2
noncomputable def VP:Nat→List PV→List PV
 |_,[]=>[]
 |n,x::r=>.tup [.int n,x]::VP (n+1) r
theorem nD:∀(xs:List PV)(n:Nat),(VP n xs).length=xs.length
 |[],_=>rfl
 |_::r,n=>by simp[VP,nD r]
theorem xw:∀(xs:List PV)(n i:Nat),(VP n xs)[i]? =xs[i]?.map fun x=>PV.tup [.int ((n+i:Nat):Int),x]
 |[],_,_=>by simp[VP]
 |x::r,n,0=>by simp[VP]
 |x::r,n,i+1=>by simp only[VP,List.getElem?_cons_succ,xw r];congr 2;funext y;congr 3;omega
section
variable{K:W.Frag}{T:Tab}{F H:Hp}{m:List Addr}
theorem uC{sq:Hp→List V→Prop}{xs:List PV}{vs:List V}(st:∀F1 H1,cA F F1→cA F1 H1→sq H1 vs)(r:au K T F m xs vs):sM K T (Ite sq) (VP 0 xs) F m H:=by
 have at':∀{F1:Hp}{m1:List Addr}{h1:List PO}{H1:Hp},aP F m H F1 m1 H1→RelH K T F1 m1 h1 H1→sq H1 vs:=fun s R=>st _ _ s.fz R.same;refine⟨fun i F1 m1 h1 H1 s R hi=>?_,fun i F1 m1 h1 H1 v H2 s R hi y=>?_,fun F1 m1 h1 H1 s R=>⟨vs,at' s R,by rw[nD,r.length]⟩⟩
 ·rw[nD,r.length]at hi;exact⟨vs,vs[i],at' s R,List.getElem?_eq_getElem hi⟩
 ·obtain⟨p,y,hp,rfl,rfl,q⟩:=y;rw[nD]at hi;obtain⟨v',Vy,VN⟩:=r.get (List.getElem?_eq_getElem hi);have:v'=y:=by have z:=q vs (at' s R);rw[Vy]at z;cases z;rfl
  subst this;obtain⟨s2,R2⟩:=aP.lay (o:=.tup [.int i,v']) R hp;refine⟨_,_,.tup [.int i,xs[i]],s2,R2,?_,.tup (.inl (.inl aA)) (.cons (.int i) (.cons (s2.rep (s.rep VN)) .nil))⟩;rw[xw,List.getElem?_eq_getElem hi];simp
end
def BM(ps:List PV)(h:List PO):Res (List PV):=match ps with
 |[.tup xs]=>.ok (VP 0 xs) h
 |[.lst xs]=>.ok (VP 0 xs) h
 |_=>.bad
def uS(f:Ax):Ax:=fun ρ h=>(f ρ h).bind BM
section
variable{X:Cx}{T:Tab}{Ew:XK}{a:Expr}{elts:List Expr}{f:Ax}{k:Nat}{pos p p1:Pos}
theorem CZ(hg:Gl X "enumerate")(hm:X.mg "enumerate"=none)(ha:RA X T Ew [a] f)(hs:starEach [a] X.env= [(false,eval a X.env)]:=by rfl):RI X T Ew (.Tuple elts k pos) (.Call (.Name "enumerate" p) [a] [] p1) (uS f):=by with_unfolding_all
 intro pins s σ H R I ⟨F,m,ρ,h,RR,w⟩
 by_cases ht:∃xs h1,f ρ h=.ok [.tup xs] h1
 ·obtain⟨xs,h1,e⟩:=ht;refine AB hg hm ha hs pins s σ H R I ⟨F,m,ρ,h,RR,?_⟩;unfold uS at w;rw[e]at w ⊢;intro F1 m1 H1 x s1 R1 r1;have w1:=aB.step s1 (show aB X.K T _ F m H R Ew (.ok (VP 0 xs) h1)from w)
  cases r1 with
  |cons r rr=>
   cases rr
   cases r with
   |tup sq rs=>exact⟨_,rfl,⟨_,R1.same.QB sq⟩,aB.here w1 R1 fun H=>uC (fun F1 H1 a b=>b.QB (a.QB sq)) rs⟩
 ·refine AC hg hm ha hs pins s σ H R I ⟨F,m,ρ,h,RR,?_⟩;unfold uS at w
  cases e:f ρ h with
  |bad=>rw[e]at w;exact w
  |exc v h1=>rw[e]at w;exact w
  |ok ps h1=>
   rw[e]at w;intro F1 m1 H1 x s1 R1 r1;have w1:=aB.step s1 (show aB X.K T _ F m H R Ew (BM ps h1)from w);unfold BM at w1
   split at w1
   ·exact(ht ⟨_,_,e⟩).elim
   ·cases r1 with
    |cons r rr=>
     cases rr
     cases r with
     |lst sq rs=>have q:O4 X.K F1 _ _:=.inl (.inl sq);exact⟨_,rfl,⟨_,R1.same.seq q⟩,aB.here w1 R1 fun H=>uC (fun F1 H1 a b=>b.seq (a.seq q)) rs⟩
   ·exact w1.elim
end
end L3
namespace L2
open PySem PySem.Spec PyProof.Rows
end L2
namespace L3
open PySem PySem.Spec PyProof.Rows L2
end L3
namespace HT
open PySem PySem.Spec PyProof.Rows
section
variable{prog:Program}{w:World}{A:Around}{E:Value→Shared→Prop}{s:Shared}
theorem Rw{t sl:Addr}{items:Array Value}{vl vu:Value}{lo hi:Option Int}{Q:Value→Shared→Prop}(ht:IsTup s.heap t items)(hs:s.heap.IsSliceOf sl vl vu .none)(pl:IsPart vl lo)(pu:IsPart vu hi)
  (hw:J4 items.size 0 lo=0∧J4 items.size items.size hi=items.size) (h:Q (.ref t) s):wpAny (model prog w) A (getItem (.ref t) (.ref sl)) Q E s:=by
 obtain⟨os,Xf,hcs,ZP⟩:=id hs;have hTs:s.TypeIs (.ref sl) "slice":=⟨os,Xf,hcs⟩
 unfold getItem
 try with_reducible refine wpAny_holding ?_
 first|refine wpAny_bind (wpAny_pure ?_)|skip
 refine wpAny_bind (wpAny_sequenceKey ht.typeIs (by decide) ?_)
 refine wpAny_bind (wpAny_callSpecial?_slot (name:=Str.ofString "__getitem__") ht.typeIs PyProof.Rows.slot_tuple_getitem
  (wpAny_call_entry PyProof.Rows.slot_tuple_getitem ht.typeIs entry_tuple_getitem ?_ (args_tuple_getitem _ _)))
 show wpAny _ _ (Builtin.Tuple.tupleItemsOf (.ref t) >>= _) _ _ s;refine wpAny_bind (tupleItemsOf_ ht ?_);refine wpAny_bind (wpAny_typeOf hTs ?_);rw[if_pos (by decide)];refine wpAny_bind (gU hs pl pu ?_)
 have yes:(((J4 items.size 0 lo:Nat):Int)==0&&(1:Int)==1&&(J4 items.size items.size hi - J4 items.size 0 lo)==items.size)=true:=by rw[hw.1,hw.2];simp
 show wpAny _ _ (if(((J4 items.size 0 lo:Nat):Int)==0&&(1:Int)==1&&(J4 items.size items.size hi - J4 items.size 0 lo)==items.size)=true then _ else _) _ _ s;rw[if_pos yes];obtain⟨⟨ct,dt,da,Wb⟩,hot,hct,n,hdt⟩:=id ht
 cases(show ct=Value.type "tuple" from hct)
 wp_walk using AutoSeq1.wpAny_loadPart' hot
 exact⟨_,rfl,wpAny_pure h⟩
end
end HT
namespace L2
open PySem PySem.Spec PyProof.Rows
def Kw(K:W.Frag):V→Option Int→Option Int→Hp→VK→Prop:=fun x lo hi H Q=>∃a xs,x=.ref a∧PN K H a xs∧(HT.J4 xs.length 0 lo=0∧HT.J4 xs.length xs.length hi=xs.length)∧Q (.ref a) H
theorem GR{X:Cx}:V9 X (Kw X.K):=by
 intro pins s σ H x v vl vu lo hi sl Q I rx hs pl pu h;obtain⟨a,xs,rfl,hx,hw,q⟩:=h
 cases rx
 obtain⟨its,r,ht,hz⟩:=I.tuple hx;have K3:its.toArray.size=xs.length:=by rw[List.size_toArray];exact r.length.symm
 exact⟨"tuple",_,PyProof.Rows.slot_tuple_getitem.lookup,ht.typeIs,HT.Rw ht hs pl pu (by rw[K3];exact hw) ⟨.ref a,H,I,rfl,q⟩⟩
end L2
namespace L3
open PySem PySem.Spec PyProof.Rows L2
def oY(p:PV)(lo hi:Option Int)(h:List PO):Res PV:=match p with
 |.tup xs=>if HT.J4 xs.length 0 lo=0∧HT.J4 xs.length xs.length hi=xs.length then .ok (.tup xs) h else .ok (.tup (cut xs lo hi)) h
 |p=>pSl p lo hi h
def pE(a:Ex)(lo hi:Ox):Ex:=fun ρ h=>(a ρ h).bind fun p h1=>(lo ρ h1).bind fun l h2=>(hi ρ h2).bind fun u h3=>oY p l u h3
section
variable{X:Cx}{T:Tab}{Ew:XK}{a:Expr}{fa:Ex}{pos:Pos}
theorem Ar{K:W.Frag}{F H:Hp}{m:List Addr}{h:List PO}{Q:VK}{p:PV}{x:V}{lo hi:Option Int}(R:RelH K T F m h H)(rp:aF K T F m p x)(w:aB K T (aF K T) F m H Q Ew (oY p lo hi h)):KA K x lo hi H Q∨Kw K x lo hi H Q:=by
 unfold oY at w
 split at w
 ·rename_i xs
  split at w
  ·rename_i hz;obtain⟨a,vs,rfl,ea,ra⟩:=eZ R rp;refine .inr ⟨a,vs,rfl,ea,by rw[← ra.length];exact hz,?_⟩;exact aB.here w R rp
  ·rename_i hz;refine .inl (xg (Ew:=Ew) R rp ?_);unfold pSl;dsimp only;rw[if_neg hz];exact w
 ·exact .inl (xg R rp w)
theorem eo{lo hi:Option Expr}{fl fu:Ox}{p2:Pos}(ha:RE X T Ew a fa)(hl:RO X T Ew lo fl)(hh:RO X T Ew hi fu):RE X T Ew (.Subscript a (.Slice lo hi none p2) pos) (pE fa fl fu):=by with_unfolding_all
 refine PE.imp (AH (L2.V9.or (L2.V9.or GQ (L2.V9.or GP CO)) GR) ha hl hh) ?_;rintro σ H Q ⟨F,m,ρ,h,R,p⟩;refine⟨F,m,ρ,h,R,(aB.bind p).mono ?_⟩;rintro x H1 ⟨F1,m1,h1,p1,s1,R1,r1,w1⟩;refine⟨F1,m1,ρ,h1,R.of s1 R1,(aB.bind w1).mono ?_⟩;rintro l H2 ⟨F2,m2,h2,l2,s2,R2,e2,w2⟩;subst e2;refine⟨F2,m2,ρ,h2,(R.of s1 R1).of s2 R2,(aB.bind w2).mono ?_⟩;rintro u H3 ⟨F3,m3,h3,u3,s3,R3,e3,w3⟩;subst e3;exact Ar R3 (s3.rep (s2.rep r1)) w3
end
end L3
namespace L2
open PySem PySem.Spec PyProof.Rows
end L2
namespace L3
open PySem PySem.Spec PyProof.Rows L2
end L3
namespace L2
open PySem PySem.Spec PyProof.Rows
end L2
namespace L3
open PySem PySem.Spec PyProof.Rows L2
end L3
namespace L2
open PySem PySem.Spec PyProof.Rows
end L2
namespace L3
open PySem PySem.Spec PyProof.Rows L2
end L3
namespace L2
open PySem PySem.Spec PyProof.Rows
end L2
namespace L3
open PySem PySem.Spec PyProof.Rows L2
end L3
namespace L2
open PySem PySem.Spec PyProof.Rows
section
variable{P:Program}{w:World}{A:Around}{E:Value→Shared→Prop}{s:Shared}
theorem xQ{b:Bool}{l:Addr}{its:Array Value}{zs:List Str}(hh:A.handled=none)(hl:IsTup s.heap l its)(r:aL (zs.map V.str) its.toList)(few:its.size+1<scanBound):
  codeAny (model P w) A (.call (.builtin "set.__init__") ⟨[.ref s.heap.objs.size,.ref l],[]⟩)
   (wants (fun u s2=>u=.none∧∃h' tk,s2= { s with heap:=h',toks:=tk }∧sL P w s s.heap.objs.size zs its.size h') E) { s with heap:=s.heap.push (gV b) }:=by
 have Td:(s.heap.push (gV b)).get? s.heap.objs.size=some (gV b):=Heap.get?_push_size _ rfl;refine codeAny_call_builtin F.called_set.init.plain F.entry_set_init (check_set_init_1 ⟨_,Td,rfl⟩ ?_);obtain⟨⟨oc,od,Zk,S6⟩,q,c1,c,c2⟩:=hl
 cases c1
 cases c2
 have q':(s.heap.push (gV b)).get? l=some { cls:=.type "tuple",dict:=od,data:=.seq its c,slots:=S6 }:=Heap.get?_push_of_some _ q;have n1:=F.sub_tuple_set;have n2:=F.sub_tuple_frozenset;have n3:(Value.type "tuple"==Value.type "dict")=false:=by decide
 have ll:l<s.heap.objs.size:=Heap.lt_size q;have Zv:(s.heap.push (gV b)).IsTuple l its:=⟨_,q',rfl,c,rfl⟩
 unfold Builtin.«set.__init__» noKeywords Builtin.Frozenset.updateFrom;generalize gi:pyIter=iter
 wp_walk
 subst gi;apply wpAny_pyIter_tuple Zv;refine wpAny_bind<|wpAny_runValue ?_
 have sz:(s.heap.push (gV b)).objs.size=s.heap.objs.size+1:=Heap.size_push _ _
 have ne1:l≠(s.heap.push (gV b)).objs.size:=fun z=>by rw[sz]at z;exact Nat.lt_irrefl _ (Nat.lt_trans (z▸ll) (Nat.lt_succ_self _))
 have out:s.heap.objs.size∉ [(s.heap.push (gV b)).objs.size,l]:=by
  intro z;rcases List.mem_cons.mp z with z|z
  ·rw[sz]at z;exact Nat.ne_of_lt (Nat.lt_succ_self _) z
  ·exact Nat.ne_of_gt ll (List.mem_singleton.mp z)
 have W:=(Walks.tuple (prog:=P) (w:=w) (A:=A.in1.in1) (by simp[hh]) _ l ne1 its).toS;refine tu W s.heap.objs.size out (fun i=>zs.getD i Str.empty) (fun i v z=>wL r i v (by rw[Array.getElem?_toList];exact z)) few its.size 0 _ (Nat.zero_add _) ?_ ?_ ?_
 ·exact⟨⟨_,Heap.get?_push_size _ rfl,rfl,rfl⟩,Zv.push _⟩
 ·exact SetOf_congr ((setObjOf_fresh (knd:=strKind P w) b).setOf (Heap.get?_push_of_some _ Td) (by decide)) (fun _=>rfl) rfl
 ·rintro⟨h',g',d',t',o'⟩ mv so
  obtain rfl:g'=s.gens:=mv.gens;obtain rfl:d'=s.drawn:=mv.drawn;obtain rfl:o'=s.os:=mv.os;apply wpAny_pure;refine wpAny_pure ⟨rfl,h',t',rfl,so,fun x o hx e=>mv.heap x o (fun z=>?_) (Heap.get?_push_of_some _ (Heap.get?_push_of_some _ e))⟩;rcases List.mem_cons.mp z with z|z
  ·exact Nat.ne_of_lt hx z
  ·have z:=List.mem_singleton.mp z;rw[sz]at z;exact Nat.ne_of_lt (Nat.lt_succ_of_lt hx) z
theorem oU{l:Addr}{its:Array Value}{zs:List Str}{Q:Value→Shared→Prop}(hh:A.handled=none)(hl:IsTup s.heap l its)(r:aL (zs.map V.str) its.toList)(few:its.size+1<scanBound)
  (k:∀(h':Heap)(tk:Nat),sL P w s s.heap.objs.size zs its.size h'→Q (.ref s.heap.objs.size) { s with heap:=h',toks:=tk }):wpAny (model P w) A (call (.type "set") [.ref l]) Q E s:=by
 have C:=F.called_set;obtain⟨_,_,c1⟩:=C.mro;have c2:=C.made;have c3:=C.sub;have c4:=C.notType;have c5:=C.canCreate;have c6:=F.typeCall_set_1 (.ref l);have c7:=C.init.lookup;have c8:=C.init.bind (.ref s.heap.objs.size);apply wpAny_call;apply codeAny_of_tree;show wpAny _ _ (callAny (.type "set") ⟨[.ref l],[]⟩) _ _ _;apply wpAny_pure;refine And.intro (Code.quiet_builtin _ (by decide+kernel))<|codeAny_builtin F.entry_type_call ?_
 rw[Around.under_plain (weight_type_call_type "set" [.ref l] []) rfl]
 repeat any_goals first|assumption|wp_step
 refine codeAny_mono (R:=wants (fun o s1=>∃b:Bool,o=.ref s.heap.objs.size∧s1= { s with heap:=s.heap.push (gV b) }) E) (code_set_new_1 _ fun b=>⟨b,rfl,rfl⟩) fun res s1 z=>?_;rcases res with e|(o|_|_|_)<;>first|exact z|exact z.elim|skip
 obtain⟨b,rfl,rfl⟩:=z;have isS:Shared.TypeIs { s with heap:=s.heap.push (gV b) } (.ref s.heap.objs.size) "set":=⟨_,Heap.get?_push_size _ rfl,rfl⟩
 repeat any_goals first|assumption|wp_step
 refine codeAny_mono (xQ (E:=E) (by simp[hh]) hl r few) fun X5 s2 z2=>?_;rcases X5 with e|(o|_|_|_)<;>first|exact z2|exact z2.elim|skip
 obtain⟨rfl,h',tk,rfl,fin⟩:=z2
 repeat any_goals first|assumption|wp_step
 exact k h' tk fin
end
section
variable{X:Cx}{e:Expr}{te:TE}{p1 p2 pos pos2:Pos}
theorem vE(hc:X.calm=true)(g1:Gl X "len")(m1:X.mg "len"=none)(g2:Gl X "set")(m2:X.mg "set"=none)(he:PE X e te)
  (hs:starEach [e] X.env=(false,eval e X.env)::starEach [] X.env:=by rfl) (VL:starEach [.Call (.Name "set" p2) [e] [] pos2] X.env=(false,eval (.Call (.Name "set" p2) [e] [] pos2) X.env)::starEach [] X.env:=by rfl)
  (hp:(backTo pos (starEach [] X.env)).any (·.1)=false:=by rfl) (WY:(backTo pos2 (starEach [] X.env)).any (·.1)=false:=by rfl):
  PE X (.Call (.Name "len" p1) [.Call (.Name "set" p2) [e] [] pos2] [] pos) (fun σ H Q=>te σ H fun x H1=>∃(a:Addr)(zs:List Str),x=.ref a∧PN X.K H1 a (zs.map V.str)∧zs.length+1<scanBound∧Q (.int ((cj (fun i=>zs.getD i Str.empty) zs.length).length:Nat)) H1):=by
 intro pins s σ H Q I h;refine wpAny_Call_Name_kw (gm I g1 m1 PySem.boot_len ?_ (by decide) (by decide));refine PyProof.Rows.callWith_builtin1 ?_ VL hp;rw[VL];show wpAny _ _ (spliced ((false,eval (.Call (.Name "set" p2) [e] [] pos2) X.env)::backTo pos (starEach [] X.env))) _ _ s;refine Calls.spliced_cons ?_;have hv:bootBuiltins "set"=some (.type "set"):=by decide+kernel
 refine wpAny_Call_Name_kw (gm I g2 m2 hv ?_ (by decide) (by decide));refine callWith_type1 ?_ hs WY;have ha:=nA he rR hs
 refine G4 (ha pos2 pins s σ H (fun vs H1=>match vs with
  |[x]=>∃(a:Addr)(zs:List Str),x=.ref a∧PN X.K H1 a (zs.map V.str)∧zs.length+1<scanBound∧Q (.int ((cj (fun i=>zs.getD i Str.empty) zs.length).length:Nat)) H1
  |_=>False) I h) fun us s1 ⟨vs,H1,I1,rv,z⟩=>?_
 dsimp only at z
 split at z
 rotate_left
 ·exact z.elim
 rename_i x;obtain⟨a,zs,e1,sq,few,q⟩:=z;subst e1;obtain⟨u,rfl,ru⟩:=rv.one
 cases ru
 obtain⟨its,ri,pl,hz⟩:=I1.tuple sq;have ln:its.length=zs.length:=by rw[← ri.length,List.length_map]
 refine oU (I1.ok.hd hc) pl (by simpa using ri) (by simpa[ln]using few) fun h' tk fin=>?_;obtain⟨so,kp⟩:=fin;have I2:Inv X pins σ H1 { s1 with heap:=h',toks:=tk }:=I1.kept fun b o z=>kp b o (Heap.lt_size z) z;refine Calls.spliced_nil ?_;obtain⟨o,go,oo⟩:=so.objOf;obtain⟨o1,es,ep,t,o2,_,_,o3,o4⟩:=oo;have lz:=md (fun i=>zs.getD i Str.empty) its.toArray.size;have sz:its.toArray.size=zs.length:=by simp[ln]
 have sb:scanBound<2 ^ 63:=by decide
 refine call_len_set go o1 o2 o4 (by omega) ?_;refine⟨.int _,H1,I2.tok _,⟨_,rfl⟩,?_⟩;rw[o3,sz];exact q
end
end L2
namespace L3
open PySem PySem.Spec PyProof.Rows L2
section
variable{X:Cx}{T:Tab}{Ew:XK}{a b e:Expr}{fa fb f:Ex}{pos p0 p1 p2 pos2:Pos}
def dH(p:PV)(h:List PO):Res PV:=match p with
 |.tup xs=>match dS xs with
  |some ls=>if ls.length+1<scanBound then .ok (.int (oV ls:Nat)) h else .bad
  |none=>.bad
 |p=>jG p h
theorem vy(g1:Gl X "len")(m1:X.mg "len"=none)(g2:Gl X "set")(m2:X.mg "set"=none)(he:RE X T Ew e f)(hc:X.calm=true:=by rfl)
  (hs:starEach [e] X.env=(false,eval e X.env)::starEach [] X.env:=by rfl) (VL:starEach [.Call (.Name "set" p2) [e] [] pos2] X.env=(false,eval (.Call (.Name "set" p2) [e] [] pos2) X.env)::starEach [] X.env:=by rfl)
  (hp:(backTo pos (starEach [] X.env)).any (·.1)=false:=by rfl) (WY:(backTo pos2 (starEach [] X.env)).any (·.1)=false:=by rfl):
  RE X T Ew (.Call (.Name "len" p1) [.Call (.Name "set" p2) [e] [] pos2] [] pos) (c1 dH f):=by with_unfolding_all
 intro pins s σ H Q I ⟨F,m,ρ,h,R,p⟩;have pb:aB X.K T (aF X.K T) F m H Q Ew ((f ρ h).bind dH):=p
 by_cases ht:∃xs h1,f ρ h=.ok (.tup xs) h1
 ·obtain⟨xs,h1,ef⟩:=ht;refine vE hc g1 m1 g2 m2 he hs VL hp WY pins s σ H Q I ⟨F,m,ρ,h,R,?_⟩;rw[ef]at pb ⊢;intro F1 m1 H1 x s1 R1 r1;have w:=aB.step s1 (show aB X.K T _ F m H Q Ew (dH (.tup xs) h1)from pb);unfold dH at w;dsimp only at w
  cases e2:dS xs with
  |none=>rw[e2]at w;exact w.elim
  |some ls=>
   rw[e2]at w;dsimp only at w
   split at w
   ·rename_i q
    cases r1 with
    |tup ea ra=>have em:=im e2;subst em;have ev:=nO ra;subst ev;refine⟨_,ls.map S,rfl,R1.same.QB ea,by rw[List.length_map];exact q,?_⟩;rw[zK];exact aN w R1 (.int _)
   ·exact w.elim
 ·have hl:=yb (T:=T) (Ew:=Ew) (f:=f) (p1:=p1) (p2:=p2) (pos:=pos) (pos2:=pos2) g1 m1 g2 m2 he hc hs VL hp WY;refine(show PE X _ (wE X T Ew (c1 jG f))from hl) pins s σ H Q I ⟨F,m,ρ,h,R,?_⟩;show aB X.K T (aF X.K T) F m H Q Ew ((f ρ h).bind jG)
  cases ef:f ρ h with
  |bad=>rw[ef]at pb;exact pb
  |exc e' h'=>rw[ef]at pb;exact pb
  |ok q h1=>
   rw[ef]at pb
   have:dH q h1=jG q h1:=by
    unfold dH
    split
    ·exact absurd ⟨_,_,ef⟩ ht
    ·rfl
   rw[show(Res.ok q h1).bind dH=dH q h1 from rfl,this]at pb;exact pb
end
def SN(n:Nat):PV→Bool
 |.ref i=>decide (i<n)
 |p=>p.pure
def VJ(n:Nat):PO→Bool
 |.lst xs=>xs.all (SN n)
 |.dct kvs=>kvs.all fun x=>SN n x.2
 |.G7 _=>true
 |.obj _ ps=>ps.all (SN n)
section
variable{K:W.Frag}{T:Tab}{F F1 F2 H H1 H2:Hp}{m m1 m2 t:List Addr}
theorem aF.SN{p:PV}{v:V}(r:aF K T F (m++t) p v)(l:SN m.length p=true):aF K T F m p v:=by
 by_cases hr:∃i,p=.ref i
 ·obtain⟨i,rfl⟩:=hr
  cases r with
  |ref e=>have hi:i<m.length:=of_decide_eq_true l;rw[List.getElem?_append_left hi]at e;exact .ref e
 ·have pu:p.pure=true:=by cases p<;>first|exact l|exact(hr ⟨_,rfl⟩).elim
  exact r.H_ pu
theorem au.SN:∀{ps:List PV}{vs:List V},au K T F (m++t) ps vs→ps.all (L3.SN m.length)=true→au K T F m ps vs
 |_,_,.nil,_=>.nil
 |_,_,.cons r q,l=>by rw[List.all_cons,abk]at l;exact .cons (r.SN l.1) (au.SN q l.2)
theorem uW.lt{a:Addr}{o:PO}(h:uW K T F (m++t) H a o)(l:VJ m.length o=true):uW K T F m H a o:=by
 cases o with
 |lst xs=>obtain⟨f,vs,e,r⟩:=h;exact⟨f,vs,e,r.SN l⟩
 |dct kvs=>obtain⟨f,vs,e,k,r⟩:=h;refine⟨f,vs,e,k,r.SN ?_⟩;rw[List.all_map];exact l
 |G7 q=>obtain⟨r,pq,o,e⟩:=h;exact⟨r.H_ pq,pq,o,e⟩
 |obj C ps=>obtain⟨f,vs,e,k,r⟩:=h;exact⟨f,vs,e,k,r.SN l⟩
theorem RelH.Z4{h:List PO}(R:RelH K T F (m++t) h H)(p:(h.take m.length).all (VJ m.length)=true):RelH K T F m (h.take m.length) H:=by
 have hl:=R.len;rw[List.length_append]at hl;refine⟨R.same,by rw[List.length_take];omega,fun i o a e1 e2=>?_,(List.nodup_append.mp R.nd).1⟩
 have hi:i<m.length:=by
  rcases Nat.lt_or_ge i m.length with q|q
  ·exact q
  ·rw[List.getElem?_eq_none q]at e2;cases e2
 have pp:=List.all_eq_true.mp p o (List.mem_of_getElem? e1);rw[List.getElem?_take_of_lt hi]at e1;exact(R.obj i o a e1 (by rw[List.getElem?_append_left hi];exact e2)).lt pp
end
def sA(n:Nat)(v:PV)(h:List PO):Res PV:=if((h.take n).all (VJ n)&&Nat.ble n h.length)=true then .ok v (h.take n)else .bad
def uF(n:Nat)(v:PV)(h:List PO):Res PV:=if SN n v=true then sA n v h else match eL h v with
 |some (q,h2)=>sA n q h2
 |none=>.bad
def za(n:Nat)(e:PV)(h:List PO):Res PV:=if((h.take n).all (VJ n)&&Nat.ble n h.length&&e.pure)=true then .exc e (h.take n)else .bad
def bn(f:Sx)(np n:Nat)(ps:List PV)(h:List PO):Res PV:=if ps.length=np then match f (ps.map some++List.replicate (n - ps.length) none) h with
  |.nx _ h1=>sA h.length .non h1
  |.rt v h1=>uF h.length v h1
  |.exc e h1=>za h.length e h1
  |_=>.bad
 else .bad
noncomputable def rC(f:Sx)(np n:Nat)(ps:List PV)(h:List PO):Res PV:=if ps.length=np then match f (ps.map some++List.replicate (n - ps.length) none) h with
  |.nx _ h1=>.ok .non h1
  |_=>.bad
 else .bad
section
variable{P:Program}{w:World}{K:W.Frag}{mg:Str→Option Value}{base:Heap}{T:Tab}
theorem fT{F H F' H':Hp}{m m':List Addr}{h h1:List PO}{Q:VK}{Ew:XK}{v:PV}{x:V}(R0:RelH K T F m h H)(s:aP F m H F' m' H')(R:RelH K T F' m' h1 H')(r:aF K T F' m' v x)(pv:SN h.length v=true)
  (w:aB K T (aF K T) F m H Q Ew (sA h.length v h1)):Q x H':=by
 unfold sA at w
 split at w
 ·rename_i z;rw[abk]at z;obtain⟨t,rfl⟩:=s.pre;rw[R0.len]at w z pv;exact w F' m H' x s.cut (R.Z4 z.1) (r.SN pv)
 ·exact w.elim
theorem qG{F H F' H':Hp}{m m':List Addr}{h h1:List PO}{Q:VK}{Ew:XK}{v:PV}{cls:Value}{dx:Option Addr}(R0:RelH K T F m h H)(s:aP F m H F' m' H')(R:RelH K T F' m' h1 H')(r:ky K T F' m' v cls dx)
  (w:aB K T (aF K T) F m H Q Ew (za h.length v h1)):Ew cls dx H':=by
 unfold za at w
 split at w
 ·rename_i z;rw[abk,abk]at z;obtain⟨t,rfl⟩:=s.pre;rw[R0.len]at w z;exact w F' m H' cls dx s.cut (R.Z4 z.1.1) (r.H_ z.2)
 ·exact w.elim
theorem kY{n:Nat}{p:PV}(h:p.pure=true):SN n p=true:=by cases p<;>first|exact h|(simp[PV.pure]at h)
theorem NI{x qual:Str}{st:Stmt}{f:Addr}{fd:FuncData}{N ps:List Str}{k:Nat}{g:Sx}(Fn:Vp K x qual st f fd)(Sc:dQ N ps (aG st))
  (hb:∀(E_:Value)(A:Around)(outer:List Env)(s:Shared)(H:Hp)(E:XK),aY k (A.deeper (envOfC qual (aG st) s.heap.objs.size f E_))→
   Ud (iW (PB P w) P w K mg base N qual (aG st) f E_ A outer s H E) T E (bV st) g):
  bK P w K mg base (PB P w) (k+1) f fd ps (Rz K T ps.length (bn g ps.length N.length)):=by with_unfolding_all
 obtain⟨oc,od,kV,doc,pm,an,E_,ct,S6,rfl,lk,S8⟩:=Fn.ex;refine xu lk S8 Sc (fun vs H Q E h=>mW h) fun A outer s H vs Q E hr h=>⟨_,hb E_ A outer s H E hr,?_⟩
 obtain⟨F,m,h,qs,hl,R,r,q⟩:=h;refine⟨F,m,_,h,⟨R,iD r⟩,?_⟩;unfold bn at q;rw[if_pos hl]at q
 cases z:g (qs.map some++List.replicate (N.length - qs.length) none) h with
 |nx ρ h1=>rw[z]at q;exact fun F' m' H' σ' s R'=>fT R s R'.toRelH .non rfl q
 |rt p h1=>
  rw[z]at q;intro F' m' H' x s R' rp;dsimp only[uF]at q
  by_cases lp:SN h.length p=true
  ·rw[if_pos lp]at q;exact fT R s R' rp lp q
  ·rw[if_neg lp]at q
   cases y:eL h1 p with
   |none=>rw[y]at q;exact q.elim
   |some ab=>obtain⟨p2,h2⟩:=ab;rw[y]at q;obtain⟨F2,s2,R2,r2,hp⟩:=gq R' rp y;exact fT R (s.trans s2) R2 r2 (kY hp) q
 |exc e h1=>rw[z]at q;exact fun F' m' H' cls dx s R' rx=>qG R s R' rx q
 |bk _ _=>rw[z]at q;exact q.elim
 |ct _ _=>rw[z]at q;exact q.elim
 |bad=>rw[z]at q;exact q.elim
theorem NH{x qual:Str}{st:Stmt}{f:Addr}{fd:FuncData}{N ps:List Str}{k:Nat}{g:Sx}(Fn:Vp K x qual st f fd)(Sc:dQ N ps (aG st))
  (hb:∀(E_:Value)(A:Around)(outer:List Env)(s:Shared)(H:Hp)(E:XK),aY k (A.deeper (envOfC qual (aG st) s.heap.objs.size f E_))→
   Ud (iW (PB P w) P w K mg base N qual (aG st) f E_ A outer s H E) T E (bV st) g):
  bK P w K mg base (PB P w) (k+1) f fd ps (Rz K T ps.length (rC g ps.length N.length)):=by with_unfolding_all
 obtain⟨oc,od,kV,doc,pm,an,E_,ct,S6,rfl,lk,S8⟩:=Fn.ex;refine xu lk S8 Sc (fun vs H Q E h=>mW h) fun A outer s H vs Q E hr h=>⟨_,hb E_ A outer s H E hr,?_⟩
 obtain⟨F,m,h,qs,hl,R,r,q⟩:=h;refine⟨F,m,_,h,⟨R,iD r⟩,?_⟩;unfold rC at q;rw[if_pos hl]at q
 cases z:g (qs.map some++List.replicate (N.length - qs.length) none) h with
 |nx ρ h1=>rw[z]at q;exact fun F' m' H' σ' s R'=>q F' m' H' _ s R'.toRelH .non
 |rt _ _=>rw[z]at q;exact q.elim
 |exc _ _=>rw[z]at q;exact q.elim
 |bk _ _=>rw[z]at q;exact q.elim
 |ct _ _=>rw[z]at q;exact q.elim
 |bad=>rw[z]at q;exact q.elim
theorem cC{f:Sx}{np n:Nat}:∀qs hs,bn f np n qs hs≠.bad→qs.length=np:=fun qs hs e=>by
 unfold bn at e
 split at e
 ·assumption
 ·exact absurd rfl e
theorem tD{f:Sx}{np n:Nat}:∀qs hs,rC f np n qs hs≠.bad→qs.length=np:=fun qs hs e=>by
 unfold rC at e
 split at e
 ·assumption
 ·exact absurd rfl e
end
def oO(fn:List PV→List PO→Res PV)(as:Ax):Ex:=fun ρ h=>(as ρ h).bind fn
section
variable{X:Cx}{T:Tab}{Ew:XK}{k:Nat}{f:Addr}{fd:FuncData}{ps:List Str}{x m:Str}{p0 pos apos:Pos}{e o:Expr}{es:List Expr}{fs:Ax}{fo:Ex}{fn:List PV→List PO→Res PV}
theorem lP{F H:Hp}{m:List Addr}{h:List PO}{qs:List PV}{vs:List V}{Q:VK}{np:Nat}(Ri:∀qs hs,fn qs hs≠.bad→qs.length=np)(R:RelH X.K T F m h H)(r:au X.K T F m qs vs)(w:aB X.K T (aF X.K T) F m H Q Ew (fn qs h)):Rz X.K T np fn vs H Q Ew:=
 ⟨F,m,h,qs,Ri _ _ fun z=>by rw[z]at w;exact w,R,r,w⟩
theorem yd(F:bK X.prog X.w X.K X.mg X.base (PB X.prog X.w) k f fd ps (Rz X.K T ps.length fn))(Ri:∀qs hs,fn qs hs≠.bad→qs.length=ps.length)(hp:cg (PB X.prog X.w) X Ew)(hr:aY k X.A)(hg:Gl X x)(hm:X.mg x=some (.ref f))(hk:W.keepIn X.K (.ref f)=true)(hb:bC X.K fd ps [])
  (ha:RA X T Ew (e::es) fs) (PJ:nD0 x:=by decide)(he:sE0 X e es:=by rfl) (J3:sP0 X es pos:=by rfl):
  RE X T Ew (.Call (.Name x p0) (e::es) [] pos) (oO fn fs):=by with_unfolding_all
 refine PE.imp (rQ F hr hg hm hk hb .nil hp ha PJ he J3) ?_;rintro σ H Q ⟨F,m,ρ,h,R,p⟩;refine⟨F,m,ρ,h,R,(aB.bind p).mono ?_⟩;rintro vs H1 ⟨F1,m1,h1,qs,s1,R1,r1,w1⟩
 rw[List.append_nil];exact lP Ri R1 r1 w1
end
theorem nI{f:Str}:∀{ns:List Str}{vs:List V}{j:Nat}{v:V},ns.Nodup→ns[j]? =some f→vs[j]? =some v→(ns.zip vs).lookup f=some v
 |[],_,_,_,_,e,_=>by simp at e
 |n::ns,[],j,v,_,_,e=>by simp at e
 |n::ns,x::vs,0,v,_,e1,e2=>by simp only[List.getElem?_cons_zero,Option.some.injEq]at e1 e2;subst e1 e2;simp[List.zip_cons_cons,List.lookup]
 |n::ns,x::vs,j+1,v,nd,e1,e2=>by
  rw[List.nodup_cons]at nd;simp only[List.getElem?_cons_succ]at e1 e2;have ne:f≠n:=fun z=>nd.1 (by rw[← z];exact List.mem_of_getElem? e1);have:(f==n)=false:=by simpa using ne
  rw[List.zip_cons_cons,List.lookup,this];exact nI nd.2 e1 e2
theorem fW{f:Str}:∀{ns:List Str}{vs:List V},f∉ns→(ns.zip vs).lookup f=none
 |[],_,_=>by simp
 |n::ns,[],_=>by simp
 |n::ns,x::vs,h=>by
  have:(f==n)=false:=by simpa using fun z=>h (by simp[z])
  rw[List.zip_cons_cons,List.lookup,this];exact fW fun z=>h (List.mem_cons_of_mem _ z)
theorem tR{f:Str}{y:V}:∀{ns:List Str}{vs:List V}{j:Nat},ns.Nodup→ns[j]? =some f→j<vs.length→gz f y (ns.zip vs)=ns.zip (vs.set j y)
 |[],_,_,_,e,_=>by simp at e
 |n::ns,[],j,_,_,e=>by simp at e
 |n::ns,x::vs,0,_,e1,_=>by simp only[List.getElem?_cons_zero,Option.some.injEq]at e1;subst e1;simp[List.zip_cons_cons,gz]
 |n::ns,x::vs,j+1,nd,e1,hl=>by rw[List.nodup_cons]at nd;simp only[List.getElem?_cons_succ]at e1;have ne:n≠f:=fun z=>nd.1 (by rw[z];exact List.mem_of_getElem? e1);have ih:=tR (y:=y) (vs:=vs) nd.2 e1 (by simpa using hl);simp[List.zip_cons_cons,gz,ne,ih]
theorem tS{f:Str}{y:V}:∀{ns:List Str}{vs:List V},ns.Nodup→ns[vs.length]? =some f→gz f y (ns.zip vs)=ns.zip (vs++ [y])
 |[],_,_,e=>by simp at e
 |n::ns,[],_,e1=>by simp only[List.length_nil,List.getElem?_cons_zero,Option.some.injEq]at e1;subst e1;simp[gz]
 |n::ns,x::vs,nd,e1=>by rw[List.nodup_cons]at nd;simp only[List.length_cons,List.getElem?_cons_succ]at e1;have ne:n≠f:=fun z=>nd.1 (by rw[z];exact List.mem_of_getElem? e1);have ih:=tS (y:=y) (vs:=vs) nd.2 e1;simp[List.zip_cons_cons,gz,ne,ih]
theorem wg(C:Nat):(Sv C).Nodup:=by
 unfold Sv
 split<;>decide+kernel
theorem ET(C:Nat):(Sv C).length<100:=by
 unfold Sv
 split<;>decide+kernel
noncomputable def jT(C:Nat)(h:List PO):PV→Option (Nat×List PV)
 |.ref i=>match h[i]? with
  |some (.obj D ps)=>if D=C then some (i,ps)else none
  |_=>none
 |_=>none
def hU(C j:Nat)(p:PV)(h:List PO):Res PV:=match jT C h p with
 |some (_,ps)=>match ps[j]? with
  |some q=>.ok (ao h q) h
  |none=>.bad
 |none=>.bad
def vq(C j:Nat)(v p:PV)(ρ:Ev)(h:List PO):SR:=match jT C h p with
 |some (i,ps)=>if j<ps.length then .nx ρ (h.set i (.obj C (ps.set j v)))else if j=ps.length then .nx ρ (h.set i (.obj C (ps++ [v])))else .bad
 |none=>.bad
def nT(C j:Nat)(fo fv:Ex):Sx:=fun ρ h=>dA (fv ρ h) fun v h1=>dA (fo ρ h1) fun o h2=>vq C j v o ρ h2
section
variable{K:W.Frag}{T:Tab}{F H:Hp}{m:List Addr}{h:List PO}
theorem hZ{C i:Nat}{p:PV}{x:V}{ps:List PV}(R:RelH K T F m h H)(r:aF K T F m p x)(e:jT C h p=some (i,ps)):∃a Ca dx vs,p=.ref i∧x=.ref a∧m[i]? =some a∧h[i]? =some (.obj C ps)∧F a=none∧T C=some Ca∧H a=some (.ins Ca dx ((Sv C).zip vs))∧F dx=some (.own a)∧vs.length≤(Sv C).length∧au K T F m ps vs:=by
 cases r with
 |@ref j a em=>
  replace e:(match h[j]? with|some (.obj D ps)=>if D=C then some (j,ps)else none|_=>none)=some (i,ps):=e
  cases q:h[j]? with
  |none=>rw[q]at e;cases e
  |some o=>
   rw[q]at e
   cases o with
   |obj D qs=>
    by_cases z:D=C
    ·subst z;dsimp only at e;rw[if_pos rfl]at e
     cases e
     obtain⟨f,vs,⟨Ca,dx,c,e1,d⟩,k,rr⟩:=R.obj _ _ a q em;exact⟨a,Ca,dx,vs,rfl,rfl,em,q,f,c,e1,d,k,rr⟩
    ·dsimp only at e;rw[if_neg z]at e
     cases e
   |lst _=>cases e
   |dct _=>cases e
   |G7 _=>cases e
 |_=>cases e
end
structure pH(K:W.Frag)(T:Tab)(C:Nat)(Ca:Addr):Prop where
 t:T C=some Ca
 c:Cls K Ca
 n:∀f∈Sv C,iP K Ca f
section
variable{X:Cx}{T:Tab}{Ew:XK}{f:Str}{o value:Expr}{fo fv:Ex}{pos pos':Pos}{C j:Nat}{Ca:Addr}
theorem dX(oc:pH X.K T C Ca)(hj:(Sv C)[j]? =some f)(ho:RE X T Ew o fo)(hb:attributeBase o f X.env (eval o X.env)=eval o X.env:=by rfl):RE X T Ew (.Attribute o f pos) (c1 (hU C j) fo):=by with_unfolding_all
 refine PE.imp (HC ho hb) ?_;rintro σ H Q ⟨F,m,ρ,h,R,p⟩;refine⟨F,m,ρ,h,R,(aB.bind p).mono ?_⟩;rintro x H1 ⟨F1,m1,h1,p1,s1,R1,r1,w1⟩
 unfold hU at w1
 cases e:jT C h1 p1 with
 |none=>rw[e]at w1;exact w1.elim
 |some ip=>
  obtain⟨i,ps⟩:=ip;rw[e]at w1;dsimp only at w1;obtain⟨a,Cb,dx,vs,rfl,rfl,em,hi,fF,c,eH,d,k,rr⟩:=hZ R1 r1 e;rw[oc.t]at c
  cases c
  cases e2:ps[j]? with
  |none=>rw[e2]at w1;exact w1.elim
  |some q=>rw[e2]at w1;obtain⟨v,e3,rq⟩:=rr.get e2;exact⟨a,Ca,dx,_,v,rfl,eH,oc.c,oc.n f (List.mem_of_getElem? hj),nI (wg C) hj e3,aB.here w1 R1 (R1.UJ rq)⟩
theorem nV(oc:pH X.K T C Ca)(hj:(Sv C)[j]? =some f)(ho:RE X T Ew o fo)(hv:RE X T Ew value fv)(hs:swapsWith value (some (.Attribute o f pos')) pos.line X.env=pure false:=by rfl):RS X T Ew (.Assign [.Attribute o f pos'] value pos) (nT C j fo fv):=by with_unfolding_all
 refine PS.imp (Hl ho hv hs) ?_;rintro D σ H ⟨F,m,ρ,h,R,p⟩;refine⟨F,m,ρ,h,R,(dZ p).mono ?_⟩;rintro v H1 ⟨F1,m1,h1,pv,s1,R1,r1,w1⟩
 refine⟨F1,m1,ρ,h1,R.of s1 R1,(dZ w1).mono ?_⟩;rintro o H2 ⟨F2,m2,h2,po,s2,R2,r2,w2⟩;have RS2:=(R.of s1 R1).of s2 R2;unfold vq at w2
 cases e:jT C h2 po with
 |none=>rw[e]at w2;exact w2.elim
 |some ip=>
  obtain⟨i,ps⟩:=ip;rw[e]at w2;dsimp only at w2;obtain⟨a,Cb,dx,vs,rfl,rfl,em,hi,hF,c,eH,d,k,rr⟩:=hZ R2 r2 e;rw[oc.t]at c
  cases c
  have rv:=s2.rep r1;have ll:=rr.length;refine⟨a,Ca,dx,_,rfl,eH,oc.c,oc.n f (List.mem_of_getElem? hj),?_,?_⟩
  ·rw[List.length_zip];have:=ET C;omega
  ·by_cases z:j<ps.length
   ·rw[if_pos z]at w2;obtain⟨st,R'⟩:=R2.upd (o':=.obj C (ps.set j pv)) (ho:=.ins Ca dx ((Sv C).zip (vs.set j v))) em hF ⟨_,eH⟩ ⟨hF,_,⟨Ca,dx,oc.t,aA,d⟩,by rw[List.length_set];exact k,rr.set rv j⟩;rw[tR (wg C) hj (by omega)];exact w2 F2 m2 _ _ st ⟨R',st.env RS2.env⟩
   ·rw[if_neg z]at w2
    by_cases y:j=ps.length
    ·rw[if_pos y]at w2;have Wv:(Sv C)[vs.length]? =some f:=by rw[← ll,← y];exact hj
     obtain⟨st,R'⟩:=R2.upd (o':=.obj C (ps++ [pv])) (ho:=.ins Ca dx ((Sv C).zip (vs++ [v]))) em hF ⟨_,eH⟩ ⟨hF,_,⟨Ca,dx,oc.t,aA,d⟩,by have:=(List.getElem?_eq_some_iff.mp Wv).1;rw[List.length_append,List.length_singleton];omega,rr.append (.cons rv .nil)⟩
     rw[tS (wg C) Wv];exact w2 F2 m2 _ _ st ⟨R',st.env RS2.env⟩
    ·rw[if_neg y]at w2;exact w2.elim
end
def be(C:Nat)(fn:List PV→List PO→Res PV)(o:Ex)(as:Ax):Ex:=fun ρ h=>(o ρ h).bind fun p h1=>match jT C h1 p with
 |some _=>(as ρ h1).bind fun ps h2=>fn (p::ps) h2
 |none=>.bad
section
variable{X:Cx}{T:Tab}{Ew:XK}{k:Nat}{f Ca:Addr}{fd:FuncData}{ps:List Str}{m:Str}{pos apos:Pos}{e o:Expr}{es:List Expr}{fs:Ax}{fo:Ex}{fn:List PV→List PO→Res PV}{C:Nat}
theorem zX{pl:Sem Bool}(oc:pH X.K T C Ca)(hm:eF X.K Ca m f)(nm:m∉Sv C)(F:bK X.prog X.w X.K X.mg X.base (PB X.prog X.w) k f fd ps (Rz X.K T ps.length fn))(Ri:∀qs hs,fn qs hs≠.bad→qs.length=ps.length)(hp:cg (PB X.prog X.w) X Ew)(hr:aY k X.A)(hb:bC X.K fd ps [])(ho:RE X T Ew o fo)(ha:RA X T Ew (e::es) fs)
  (Rh:sE0 X e es:=by rfl) (J3:sP0 X es pos:=by rfl)
  (ht:eval (.Call (.Attribute o m apos) (e::es) [] pos) X.env=(do
   let ov ← eval o X.env
   standAt apos.atName
   let(f,first) ← holding [ov] (getMethod ov m pl)
   callWith pos f first (backTo pos (starEach (e::es) X.env)) (backToKw pos (keywordEach [] X.env))):=by rfl):
  RE X T Ew (.Call (.Attribute o m apos) (e::es) [] pos) (be C fn fo fs):=by with_unfolding_all
 refine PE.imp (DC (pl:=pl) ho oc.c hm F hr hb .nil hp ha Rh J3 ht) ?_;rintro σ H Q ⟨F,mm,ρ,h,R,p⟩;refine⟨F,mm,ρ,h,R,(aB.bind p).mono ?_⟩;rintro x H1 ⟨F1,m1,h1,p1,s1,R1,r1,w1⟩
 cases z:jT C h1 p1 with
 |none=>rw[z]at w1;exact w1.elim
 |some ip=>
  obtain⟨i,qs⟩:=ip;rw[z]at w1;dsimp only at w1;obtain⟨a,Cb,dx,vs,rfl,rfl,em,hi,hF,c,eH,d,k,rr⟩:=hZ R1 r1 z;rw[oc.t]at c
  cases c
  refine⟨a,dx,_,rfl,eH,fW nm,F1,m1,ρ,h1,R.of s1 R1,(aB.bind w1).mono ?_⟩;rintro vs2 H2 ⟨F2,m2,h2,q2,s2,R2,r2,w2⟩;rw[List.append_nil];exact lP Ri R2 (.cons (s2.rep r1) r2) w2
theorem ya{pl:Sem Bool}(oc:pH X.K T C Ca)(hm:eF X.K Ca m f)(nm:m∉Sv C)(F:bK X.prog X.w X.K X.mg X.base (PB X.prog X.w) k f fd ps (Rz X.K T ps.length fn))(Ri:∀qs hs,fn qs hs≠.bad→qs.length=ps.length)(hp:cg (PB X.prog X.w) X Ew)(hr:aY k X.A)(hb:bC X.K fd ps [])(ho:RE X T Ew o fo)
  (ht:eval (.Call (.Attribute o m apos) [] [] pos) X.env=(do
   let ov ← eval o X.env
   standAt apos.atName
   let(f,first) ← holding [ov] (getMethod ov m pl)
   callWith pos f first (backTo pos (starEach [] X.env)) (backToKw pos (keywordEach [] X.env))):=by rfl):
  RE X T Ew (.Call (.Attribute o m apos) [] [] pos) (be C fn fo ak):=by with_unfolding_all
 refine PE.imp (AL (pl:=pl) ho oc.c hm F hr hb .nil hp ht) ?_;rintro σ H Q ⟨F,mm,ρ,h,R,p⟩;refine⟨F,mm,ρ,h,R,(aB.bind p).mono ?_⟩;rintro x H1 ⟨F1,m1,h1,p1,s1,R1,r1,w1⟩
 cases z:jT C h1 p1 with
 |none=>rw[z]at w1;exact w1.elim
 |some ip=>
  obtain⟨i,qs⟩:=ip;rw[z]at w1;obtain⟨a,Cb,dx,vs,rfl,rfl,em,hi,hF,c,eH,d,k,rr⟩:=hZ R1 r1 z;rw[oc.t]at c
  cases c
  refine⟨a,dx,_,rfl,eH,fW nm,?_⟩;exact lP Ri R1 (.cons r1 .nil) w1
end
noncomputable def Xv(C:Nat)(fn:List PV→List PO→Res PV)(ps:List PV)(h:List PO):Res PV:=match fn (.ref h.length::ps) (h++ [.obj C []])with
 |.ok .non h2=>.ok (.ref h.length) h2
 |_=>.bad
def wt(C:Nat)(fn:List PV→List PO→Res PV)(as:Ax):Ex:=fun ρ h=>(as ρ h).bind (Xv C fn)
section
variable{K:W.Frag}{T:Tab}{F H:Hp}{m:List Addr}{h:List PO}
theorem yI{C:Nat}{Ca x dx:Addr}(R:RelH K T F m h H)(c:T C=some Ca)(nx:H x=none)(nd:H dx=none)(ne:dx≠x):
  aP F m H (upd F dx (.own x)) (m++ [x]) (upd (upd H dx (.own x)) x (.ins Ca dx []))∧RelH K T (upd F dx (.own x)) (m++ [x]) (h++ [.obj C []]) (upd (upd H dx (.own x)) x (.ins Ca dx []))∧aF K T (upd F dx (.own x)) (m++ [x]) (.ref h.length) (.ref x):=by
 obtain⟨s1,R1⟩:=aP.lay (o:=.own x) R nd;have YF:upd H dx (.own x) x=none:=by rw[aj (Ne.symm ne)];exact nx
 have hF:upd F dx (.own x) x=none:=R1.same.free YF;have hm:x∉m:=R1.fresh YF
 have st:aP (upd F dx (.own x)) m (upd H dx (.own x)) (upd F dx (.own x)) (m++ [x]) (upd (upd H dx (.own x)) x (.ins Ca dx [])):=by
  refine⟨cA.refl _,⟨[x],rfl⟩,fun b o e _=>by rw[aj (ar e YF)];exact e,fun b o e=>⟨o,by rw[aj (ar e YF)];exact e⟩,fun i a hi e=>?_,fun a o e=>.inl e⟩;rw[List.getElem?_append_right hi]at e
  have:a=x:=by
   cases q:i - m.length with
   |zero=>rw[q]at e;simpa using e.symm
   |succ k=>rw[q]at e;simp at e
  rw[this];exact YF
 refine⟨s1.trans st,⟨fun b o e=>by rw[aj (ar (R1.same b o e) YF)];exact R1.same b o e,by simp[R1.len],fun i o a e1 e2=>?_,?_⟩,.ref (by rw[R1.len];simp)⟩
 ·rcases Nat.lt_or_ge i h.length with hi|hi
  ·rw[List.getElem?_append_left hi]at e1;rw[List.getElem?_append_left (by rw[← R1.len];exact hi)]at e2;have Vx:a≠x:=fun z=>hm (by rw[← z];exact List.mem_of_getElem? e2);have q:=R1.obj i o a e1 e2
   cases o with
   |lst xs=>obtain⟨f0,ws,z,rr⟩:=q;exact⟨f0,ws,by rw[aj Vx];exact z,st.reps rr⟩
   |dct xs=>obtain⟨f0,ws,z,kk,rr⟩:=q;exact⟨f0,ws,by rw[aj Vx];exact z,kk,st.reps rr⟩
   |G7 p'=>obtain⟨r1,r3,o,r4⟩:=q;exact⟨st.rep r1,r3,o,r4⟩
   |obj C fs=>obtain⟨f0,ws,⟨Ca,dx,cu,z,d⟩,kk,rr⟩:=q;exact⟨f0,ws,⟨Ca,dx,cu,by rw[aj Vx];exact z,d⟩,kk,st.reps rr⟩
  ·have Uy:i=h.length:=by
    rcases Nat.lt_or_ge i (h.length+1)with z|z
    ·omega
    ·rw[List.getElem?_eq_none (by simp;omega)]at e1;cases e1
   subst Uy;have e1':o=.obj C []:=by simpa using e1.symm
   subst e1';have e2':a=x:=by rw[R1.len]at e2;simpa using e2.symm
   subst e2';exact⟨hF,[],⟨Ca,dx,c,by simp[aA],aA⟩,Nat.zero_le _,.nil⟩
 ·refine List.nodup_append.mpr ⟨R1.nd,by simp,fun a ha b hb=>?_⟩;have:b=x:=by simpa using hb
  subst this
  rintro rfl
  exact hm ha
end
section
variable{X:Cx}{T:Tab}{Ew:XK}{k:Nat}{f Ca:Addr}{fd:FuncData}{ps:List Str}{x:Str}{p0 pos:Pos}{e:Expr}{es:List Expr}{fs:Ax}{fn:List PV→List PO→Res PV}{C:Nat}
theorem uf{F H:Hp}{m:List Addr}{h:List PO}{qs:List PV}{vs:List V}{Q:VK}{np:Nat}(Ri:∀qs hs,fn qs hs≠.bad→qs.length=np)(hC:T C=some Ca)(R:RelH X.K T F m h H)(r:au X.K T F m qs vs)(w:aB X.K T (aF X.K T) F m H Q Ew (Xv C fn qs h))(x dx:Addr)(nx:H x=none)(nd:H dx=none)(ne:dx≠x):
  Rz X.K T np fn (.ref x::vs) (upd (upd H dx (.own x)) x (.ins Ca dx [])) (fun v H2=>v=.non∧Q (.ref x) H2) Ew:=by
 obtain⟨s1,R1,r1⟩:=yI R hC nx nd ne;refine lP Ri R1 (.cons r1 (s1.reps r)) ?_;unfold Xv at w
 cases z:fn (.ref h.length::qs) (h++ [.obj C []])with
 |bad=>rw[z]at w;exact w.elim
 |exc _ _=>rw[z]at w;exact w.elim
 |ok v h2=>
  rw[z]at w
  cases v with
  |non=>
   intro F' m' H' y t R' ry
   cases ry
   exact⟨rfl,w F' m' H' _ (s1.trans t) R' (t.rep r1)⟩
  |_=>exact w.elim
theorem Hc(M:Mk X.K Ca f)(hC:T C=some Ca)(F:bK X.prog X.w X.K X.mg X.base (PB X.prog X.w) k f fd ps (Rz X.K T ps.length fn))(Ri:∀qs hs,fn qs hs≠.bad→qs.length=ps.length)(hp:cg (PB X.prog X.w) X Ew)(hr:aY (k+1) X.A)(hg:Gl X x)(hm:X.mg x=some (.ref Ca))(hb:bC X.K fd ps [])
  (ha:RA X T Ew (e::es) fs) (PJ:nD0 x:=by decide)(he:sE0 X e es:=by rfl) (J3:sP0 X es pos:=by rfl):
  RE X T Ew (.Call (.Name x p0) (e::es) [] pos) (wt C fn fs):=by with_unfolding_all
 refine PE.imp (DE M F hr hg hm hb .nil hp ha PJ he J3) ?_;rintro σ H Q ⟨F,m,ρ,h,R,p⟩;refine⟨F,m,ρ,h,R,(aB.bind p).mono fun vs H1 ⟨F1,m1,h1,qs,s1,R1,r1,w1⟩=>fun y dy ny nd ne=>?_⟩
 rw[List.append_nil];exact uf Ri hC R1 r1 w1 y dy ny nd ne
theorem Db(M:Mk X.K Ca f)(hC:T C=some Ca)(F:bK X.prog X.w X.K X.mg X.base (PB X.prog X.w) k f fd ps (Rz X.K T ps.length fn))(Ri:∀qs hs,fn qs hs≠.bad→qs.length=ps.length)(hp:cg (PB X.prog X.w) X Ew)(hr:aY (k+1) X.A)(hg:Gl X x)(hm:X.mg x=some (.ref Ca))(hb:bC X.K fd ps [])
  (PJ:nD0 x:=by decide):RE X T Ew (.Call (.Name x p0) [] [] pos) (wt C fn ak):=by with_unfolding_all
 refine PE.imp (AM M F hr hg hm hb .nil hp PJ) ?_;rintro σ H Q ⟨F,m,ρ,h,R,p⟩;refine fun y dy ny nd ne=>?_;exact uf (qs:=[]) (vs:=[]) Ri hC R.toRelH .nil p y dy ny nd ne
end
end L3
namespace L2
open PySem PySem.Spec PyProof.Rows
def iO(CX:Vq)(X:Cx)(E:XK)(σ:St):Prop:=∀(pins:List (Addr×Obj))(H:Hp)(s:Shared)(e:Value)(s':Shared),Inv X pins σ H s→CX X.stack H s E e s'→X.xe e s'
def PEa(X:Cx)(σ:St)(e:Expr)(t:TE):Prop:=
 ∀(pins:List (Addr×Obj))(s:Shared)(H:Hp)(Q:VK),Inv X pins σ H s→t σ H Q→wpAny (model X.prog X.w) X.A (eval e X.env) (EP X pins σ Q) X.xe s
def Z9(X:Cx)(σ:St)(st:Stmt)(t:TS):Prop:=
 ∀(pins:List (Addr×Obj))(s:Shared)(H:Hp)(D:mQ),Inv X pins σ H s→t D σ H→wpAny (model X.prog X.w) X.A (exec st X.env) (SP X pins D) X.xe s
section
variable{X:Cx}{CX:Vq}{k:Nat}{f C:Addr}{fd:FuncData}{ps:List Str}{sp:Sp}{Rj:List V}{ds:List Value}{E:XK}{x m:Str}{p pos apos:Pos}{e o:Expr}{es:List Expr}{ta te:TE}{t:TA}{σ:St}
theorem CV{pins:List (Addr×Obj)}{H:Hp}{s:Shared}{Q:VK}{us:List Value}{vs:List V}(F:bK X.prog X.w X.K X.mg X.base CX k f fd ps sp)(hr:aY k X.A)(hb:bC X.K fd ps ds)(hd:aL Rj ds)(hx:iO CX X E σ)
  (I:Inv X pins σ H s) (r:aL vs us) (h:sp (vs++Rj) H Q E):wpAny (model X.prog X.w) X.A (call (.ref f) us) (EP X pins σ Q) X.xe s:=by
 have r2:aL (vs++Rj) (us++ds):=r.append hd;have hl:(us++ds).length=ps.length:=by rw[← r2.length];exact F.len _ _ _ _ h
 refine wpAny_call (codeAny_mono (F.run X.A X.stack s H ⟨us,[]⟩ (us++ds) (vs++Rj) Q E hr I.env0 (hb s us I.Qj hl) r2 h) fun r s' hq=>?_)
 cases r with
 |error e=>exact hx pins H s e s' I hq
 |ok fl=>
  cases fl with
  |ret u=>exact I.after hq
  |next=>exact False.elim hq
  |brk=>exact False.elim hq
  |cont=>exact False.elim hq
theorem AK{pl:Sem Bool}(he:PE X o ta)(c:Cls X.K C)(hm:eF X.K C m f)(F:bK X.prog X.w X.K X.mg X.base CX k f fd ps sp)(hr:aY k X.A)(hb:bC X.K fd ps ds)(hd:aL Rj ds)(hx:iO CX X E σ)(ha:PA X (e::es) t)
  (Rh:sE0 X e es:=by rfl) (J3:sP0 X es pos:=by rfl)
  (ht:eval (.Call (.Attribute o m apos) (e::es) [] pos) X.env=(do
   let ov ← eval o X.env
   standAt apos.atName
   let(f,first) ← holding [ov] (getMethod ov m pl)
   callWith pos f first (backTo pos (starEach (e::es) X.env)) (backToKw pos (keywordEach [] X.env))):=by rfl):
  PEa X σ (.Call (.Attribute o m apos) (e::es) [] pos) (wM C m sp Rj E ta t):=by
 intro pins s H Q I h;refine W.methodCall_KW (pl:=pl) (G4 (he pins s σ H _ I h) ?_) ht;rintro u s1 ⟨x,H1,I1,rx,a,dx,fs,ex,ea,l,q⟩;subst ex;obtain rfl:u=Value.ref a:=rx;refine gn I1 ea c hm l ?_;refine W.callWith_K (first:=[.ref a]) (h₀:=X.base) I.ok.mod.Sd hm.kp (G4 (ha pos pins s1 σ H1 _ I1 q) fun us s2 ⟨vs,H2,I2,r,q2⟩=>⟨I2.Qj,?_⟩) Rh J3;exact CV (us:=.ref a::us) (vs:=.ref a::vs) F hr hb hd hx I2 (.cons rfl r) q2
theorem Ao(he:PEa X σ e te)(hs:swapsWith e none pos.line X.env=pure false:=by rfl):Z9 X σ (.Expr e pos) (FR te):=by intro pins s H D I h;exact wpAny_Expr_any (G4 (he pins s H _ I h) (by rintro v s1 ⟨x,H1,I1,r1,q1⟩;exact ⟨σ,H1,I1,q1⟩)) I.quiet hs
end
def JG(K:W.Frag)(T:Addr)(i:Nat)(σ:St)(ts:TS)(R:VK):XK:=fun cls dx H'=>W.exmOne K cls (.ref T)=some true∧∀(a:Addr),H' a=none→ts { nx:=fun _ _=>False,rt:=R } (σ.set i (some (.ref a))) (upd H' a (mr a cls dx))
def JW(K:W.Frag)(T:Addr)(i:Nat)(tb:XK→TS)(ts:TS):TS:=fun D σ H=>tb (JG K T i σ ts D.rt) D σ H
theorem Dn{X:Cx}{b:Stmt}{suite:List Stmt}{b0:Stmt}{tb:XK→TS}{ts:TS}{t n:Str}{T:Addr}{i:Nat}{tp Yk pos:Pos}(stk:X.stack=X.env::X.outer)(hf:X.env.frame=some X.env.locals)
  (hb:∀pn W Eb σ,iO (PB X.prog X.w) (X.tried pn W) Eb σ→Z9 (X.tried pn W) σ b (tb Eb)) (hs:∀pn a,Te (X.suite pn a) (b0::suite) ts)
  (hN:X.N.Nodup) (hi:X.N[i]? =some n) (hn:X.env.scope.names.lookup n=some .local) (hg:Gl X t) (hm:X.mg t=some (.ref T)) (PJ:(t==("__debug__":Str))=false:=by decide):
  PS X (.Try [b] [.ExceptHandler (some (.Name t tp)) (some n) (b0::suite) Yk] [] [] pos) (JW X.K T i tb ts):=by
 intro pins s σ H D I h
 let W:Value→Shared→Prop:=fun e s1=>∃(a:Addr)(cls a0:Value)(B:Heap)(H':Hp)(dx:Option Addr),e=.ref a∧Heap.FlyingW B X.stack a cls a0 s1.heap∧H' a=none∧pK s1.heap a dx∧JG X.K T i σ ts D.rt cls dx H'∧
  ∀h2,B.StaysIn h2→s1.heap.UpToSlots h2→(∃o vs,h2.get? a=some o∧o.cls=cls∧o.data=.fields vs∧o.dict=dx)→Inv X pins σ (upd H' a (mr a cls dx)) { s1 with heap:=h2 }
 have pas:iO (PB X.prog X.w) (X.tried (X.pn++pins) W) (JG X.K T i σ ts D.rt) σ:=by
  intro K9 H1 s0 e s1 I1 c;obtain⟨a,cls,a0,B,H',dx,rfl,os,bare,un,hok,fl,cov,da,q⟩:=c
  have na:H' a=none:=by
   cases z:H' a with
   |none=>rfl
   |some u=>obtain⟨o',y⟩:=cov.2 a u z;rw[fl.2.1]at y;cases y
  exact⟨a,cls,a0,B,H',dx,rfl,fl,na,da,q,fun h2 st up ex=>fC I.ok ((EY I1 os bare un hok fl cov st up ex).Oi (K9:=[]) (fun p hp=>absurd hp (by simp)))⟩
 have hb1:wpAny (model X.prog X.w) X.A (execs [b] X.env) (SP (X.tried (X.pn++pins) W) [] D) W s:=by
  refine wpAny_execs_cons (G4 (hb _ W _ σ pas [] s H D (qw I) h) fun f s1 q=>?_)
  cases f with
  |next=>exact wpAny_execs_nil q
  |ret v=>exact q
  |brk=>exact q
  |cont=>exact q
 refine wpAny_Try_except (wpAny_mono hb1 (fun f s1 q=>?_) fun e s1 q=>?_)
 ·have q:=vn I.ok q
  cases f with
  |next=>exact wpAny_execs_nil q
  |brk=>exact q
  |cont=>exact q
  |ret u=>exact q
 ·obtain⟨a,cls,a0,B,H',dx,rfl,fl,na,da,⟨hx,go⟩,Y_⟩:=q;have ZJ:X.A.frames=some (X.env::X.outer):=by rw[I.ok.frames,stk]
  rw[stk]at fl;refine Bw (lf _ _) da (wpAny_looks_onW ZJ hf fl fun h4 held up4 d4=>?_);refine Bw (iK _ _) d4 (wpAny_landsW held fun h5 fl5 up5 d5=>?_)
  have Ww:∃o vs,h5.get? a=some o∧o.cls=cls∧o.data=.fields vs∧o.dict=dx:=by
   obtain⟨oe,vs,q1,q2,q3,_⟩:=fl5.first;obtain⟨o',y1,y2⟩:=d5;dsimp only at y1;rw[q1]at y1
   cases y1
   exact⟨oe,vs,q1,q2,q3,y2⟩
  have I5:=Y_ h5 fl5.1 (up4.trans up5) Ww;refine wpAny_handleBy_cons (codeAny_handlers_test (Calls.Name_function_global I.ok.kind hg (Calls.loadGlobal_global (by rw[I.ok.glob];exact I.ok.mod.glob.keeps I5.bk) hm ?_) PJ)) (by intro z;cases z)
  have LT:PySem.W.Looks (model X.prog X.w) h5 (typeOf (.ref a)) cls:=by obtain⟨o,vs,q1,q2,_⟩:=Ww;subst q2;exact(PySem.W.Looks.ld q1).andThen .now
  refine PySem.W.Looks.here (s:={ s1 with heap:=h5 }) (PySem.W.exm_one (K:=X.K) I5.Qj LT hx) ?_;refine codeAny_handlers_suite_as ?_;refine Bw (iK _ _) d5 (lands_againW fl5 fun h6 fl6 up6 d6=>?_)
  have Yw:∃o vs,h6.get? a=some o∧o.cls=cls∧o.data=.fields vs∧o.dict=dx:=by
   obtain⟨oe,vs,q1,q2,q3,_⟩:=fl6.first;obtain⟨o',y1,y2⟩:=d6;dsimp only at y1;rw[q1]at y1
   cases y1
   exact⟨oe,vs,q1,q2,q3,y2⟩
  have I6:=Y_ h6 fl6.1 ((up4.trans up5).trans up6) Yw;have I6s:Inv (X.suite (X.pn++pins) a) [] σ (upd H' a (mr a cls dx)) { s1 with heap:=h6 }:=yU (W:=X.xe) (qw I6);refine nQ (X:=X.suite (X.pn++pins) a) I6s hN hi (.inl hn) (v:=.ref a) rfl (fun s7 I7=>?_) (.inr hn);refine wpAny_mono (hs _ a [] s7 _ _ { nx:=fun _ _=>False,rt:=D.rt } I7 (go a na)) (fun f s8 q=>?_) fun e s8 z=>z.elim
  cases f with
  |next=>obtain⟨_,_,_,z⟩:=q;exact z.elim
  |brk=>obtain⟨_,_,_,z⟩:=q;exact z.elim
  |cont=>obtain⟨_,_,_,z⟩:=q;exact z.elim
  |ret u=>obtain⟨v,σ8,H8,I8,r8,q8⟩:=q;have J8:=uB I.ok I8;obtain⟨m8,ns8,_⟩:=id J8.loc;refine wpAny_nameGoes hn ns8 (by rw[I.ok.kind];rfl) fun h9 m9 ns9 sb=>?_;exact⟨v,_,H8,J8.lost ns9 sb,r8,q8⟩
end L2
namespace L3
open PySem PySem.Spec PyProof.Rows L2
@[irreducible] def REa(X:Cx)(T:Tab)(Ew:XK)(σ:St)(e:Expr)(f:Ex):Prop:=PEa X σ e (wE X T Ew f)
@[irreducible] def RSa(X:Cx)(T:Tab)(Ew:XK)(σ:St)(st:Stmt)(f:Sx):Prop:=Z9 X σ st (wS X T Ew f)
theorem FE{X:Cx}{σ:St}{e:Expr}{t t':TE}(h:PEa X σ e t)(i:∀H Q,t' σ H Q→t σ H Q):PEa X σ e t':=fun pins s H Q I q=>h pins s H Q I (i _ _ q)
theorem FD{X:Cx}{σ:St}{e:Stmt}{t t':TS}(h:Z9 X σ e t)(i:∀D H,t' D σ H→t D σ H):Z9 X σ e t':=fun pins s H D I q=>h pins s H D I (i _ _ q)
section
variable{X:Cx}{T:Tab}{Ew:XK}{k:Nat}{f Ca:Addr}{fd:FuncData}{ps:List Str}{x m:Str}{p0 pos apos:Pos}{e o a:Expr}{es:List Expr}{fs:Ax}{fo fa:Ex}{fn:List PV→List PO→Res PV}{C:Nat}{σ:St}
theorem xZ{pl:Sem Bool}(oc:pH X.K T C Ca)(hm:eF X.K Ca m f)(nm:m∉Sv C)(F:bK X.prog X.w X.K X.mg X.base (PB X.prog X.w) k f fd ps (Rz X.K T ps.length fn))(Ri:∀qs hs,fn qs hs≠.bad→qs.length=ps.length)(hp:iO (PB X.prog X.w) X Ew σ)(hr:aY k X.A)(hb:bC X.K fd ps [])(ho:RE X T Ew o fo)(ha:RA X T Ew (e::es) fs)
  (Rh:sE0 X e es:=by rfl) (J3:sP0 X es pos:=by rfl)
  (ht:eval (.Call (.Attribute o m apos) (e::es) [] pos) X.env=(do
   let ov ← eval o X.env
   standAt apos.atName
   let(f,first) ← holding [ov] (getMethod ov m pl)
   callWith pos f first (backTo pos (starEach (e::es) X.env)) (backToKw pos (keywordEach [] X.env))):=by rfl):
  REa X T Ew σ (.Call (.Attribute o m apos) (e::es) [] pos) (be C fn fo fs):=by with_unfolding_all
 refine FE (AK (pl:=pl) ho oc.c hm F hr hb .nil hp ha Rh J3 ht) ?_;rintro H Q ⟨F,mm,ρ,h,R,p⟩;refine⟨F,mm,ρ,h,R,(aB.bind p).mono ?_⟩;rintro x H1 ⟨F1,m1,h1,p1,s1,R1,r1,w1⟩
 cases z:jT C h1 p1 with
 |none=>rw[z]at w1;exact w1.elim
 |some ip=>
  obtain⟨i,qs⟩:=ip;rw[z]at w1;dsimp only at w1;obtain⟨a,Cb,dx,vs,rfl,rfl,em,hi,hF,c,eH,d,k,rr⟩:=hZ R1 r1 z;rw[oc.t]at c
  cases c
  refine⟨a,dx,_,rfl,eH,fW nm,F1,m1,ρ,h1,R.of s1 R1,(aB.bind w1).mono ?_⟩;rintro vs2 H2 ⟨F2,m2,h2,q2,s2,R2,r2,w2⟩;rw[List.append_nil];exact lP Ri R2 (.cons (s2.rep r1) r2) w2
theorem zO(ha:REa X T Ew σ a fa)(hs:swapsWith a none pos.line X.env=pure false:=by rfl):RSa X T Ew σ (.Expr a pos) (cQ fa):=by with_unfolding_all exact(
 FD (Ao ha hs) (by rintro D H ⟨F,m,ρ,h,R,p⟩;exact ⟨F,m,ρ,h,R,(dZ p).mono (by rintro x H1 ⟨F1,m1,h1,v,s1,R1,r1,w1⟩;exact w1 F1 m1 H1 σ .refl (R.of s1 R1))⟩))
end
def wV(cat:Nat→Bool)(g:Sx)(i:Nat)(gs:Sx):Sx:=fun ρ h=>match g ρ h with
 |.exc e h1=>match BI e with
  |some (C,p)=>if cat C=true then(match gs (ρ.set i (some p)) h1 with
   |.rt v h2=>.rt v h2
   |_=>.bad)else .bad
  |none=>.bad
 |r=>r
theorem CY{X:Cx}{T:Tab}{Ew:XK}{cat:Nat→Bool}{b:Stmt}{suite:List Stmt}{b0:Stmt}{g gs:Sx}{t n:Str}{Ta:Addr}{i:Nat}{tp Yk pos:Pos}(abM:∀C Ca,cat C=true→T C=some Ca→PySem.W.exmOne X.K (.ref Ca) (.ref Ta)=some true)
  (hb:∀pn W Eb σ,iO (PB X.prog X.w) (X.tried pn W) Eb σ→RSa (X.tried pn W) T Eb σ b g) (hs:∀pn a,Ud (X.suite pn a) T (fun _ _ _=>False) (b0::suite) gs)
  (hN:X.N.Nodup) (hi:X.N[i]? =some n) (hn:X.env.scope.names.lookup n=some .local) (hg:Gl X t) (hm:X.mg t=some (.ref Ta)) (stk:X.stack=X.env::X.outer:=by rfl) (hf:X.env.frame=some X.env.locals:=by rfl) (PJ:(t==("__debug__":Str))=false:=by decide):
  RS X T Ew (.Try [b] [.ExceptHandler (some (.Name t tp)) (some n) (b0::suite) Yk] [] [] pos) (wV cat g i gs):=by with_unfolding_all
 refine PS.imp (Dn (tb:=fun Eb=>wS X T Eb g) (ts:=wS X T (fun _ _ _=>False) gs) stk hf hb hs hN hi hn hg hm PJ) ?_;rintro D σ H ⟨F,m,ρ,h,R,p⟩;refine⟨F,m,ρ,h,R,?_⟩
 unfold wV at p
 cases z:g ρ h with
 |nx ρ1 h1=>rw[z]at p;exact p
 |rt v h1=>rw[z]at p;exact p
 |bk ρ1 h1=>rw[z]at p;exact p
 |ct ρ1 h1=>rw[z]at p;exact p
 |bad=>rw[z]at p;exact p
 |exc e h1=>
  rw[z]at p;dsimp only at p
  cases ev:BI e with
  |none=>rw[ev]at p;exact p.elim
  |some cp=>
   obtain⟨C,pe⟩:=cp;rw[ev]at p;dsimp only at p
   split at p
   ·rename_i hC;intro F' m' H' cls dx s R' rx;obtain⟨Ca,c,rfl⟩:=BH rx ev;refine⟨abM C Ca hC c,fun a na=>?_⟩;obtain⟨s2,R2⟩:=aP.lay (o:=mr a (.ref Ca) dx) R' na;have re:aF X.K T (upd F' a (mr a (.ref Ca) dx)) m' pe (.ref a):=BG rx ev s2.fz aA;refine⟨_,m',ρ.set i (some pe),h1,⟨R2,((s.trans s2).env R.env).set i re⟩,?_⟩
    cases y:gs (ρ.set i (some pe)) h1 with
     |rt v h2=>rw[y]at p;exact fun F2 m2 H2 x t2 R3 rx=>p F2 m2 H2 x ((s.trans s2).trans t2) R3 rx
     |nx _ _=>rw[y]at p;exact p.elim
     |bk _ _=>rw[y]at p;exact p.elim
     |ct _ _=>rw[y]at p;exact p.elim
     |exc _ _=>rw[y]at p;exact p.elim
     |bad=>rw[y]at p;exact p.elim
   ·exact p.elim
end L3
namespace L2
open PySem PySem.Spec PyProof.Rows
structure Y0(z ti to i1 i2:Addr)(f1 f2:List Addr):Prop where
 a1:ti≠z
 a2:to≠z
 a3:i1≠z
 a4:i2≠z
 a5:ti≠to
 a6:ti≠i1
 a7:ti≠i2
 a8:to≠i1
 a9:to≠i2
 z1:z∉f1
 z2:z∉f2
 t1:to∉f1
 t2:to∉f2
 o1:i2∉f1
 o2:i1∉f2
section
variable{prog:Program}{w:World}{A:Around}{E:Value→Shared→Prop}{s:Shared}{z ti to i1 i2:Addr}{f1 f2:List Addr}{n1 n2:Nat}{P1 P2:Nat→Value→Prop}{S1 S2:Nat→Heap→Prop}
theorem Draws.but{it c:Addr}{fp:List Addr}{n:Nat}{P:Nat→Value→Prop}{St:Nat→Heap→Prop}(D:Draws prog w A it fp n P St){j:Nat}{h h':Heap}(st:St j h)(e:Heap.ExtBut c h h')(nc:c∉fp):St j h':=
 D.frame j h h' st fun b hb o q=>e b o (fun y=>nc (y▸hb)) q
theorem zt{j:Nat}{a b:Value}{Q:Value→Shared→Prop}(Z:Y0 z ti to i1 i2 f1 f2)(D1:Draws prog w A i1 f1 n1 P1 S1)(D2:Draws prog w A i2 f2 n2 P2 S2)
  (hz:IsZip s.heap z ti to .none) (Yj:IsPair s.heap ti (.ref i1) (.ref i2)) (Yi:IsPair s.heap to a b) (s1:S1 j s.heap) (s2:S2 j s.heap) (l1:j<n1) (l2:j<n2)
  (hQ:∀x y h' tk,P1 j x→P2 j y→IsZip h' z ti to (rawInt s.heap.objs.size)→IsPair h' to x y→S1 (j+1) h'→S2 (j+1) h'→IsPair h' s.heap.objs.size x y→h'.objs.size=s.heap.objs.size+1→
   (∀c o,c≠z→c≠to→c≠i1→c≠i2→s.heap.get? c=some o→h'.get? c=some o)→Q (.ref s.heap.objs.size) { s with heap:=h',toks:=tk }):
  wpAny (model prog w) A (Builtin.«zip.__next__» ⟨[.ref z],[]⟩) (fun fin s'=>∃v,fin=.done (.ret v)∧Q v s') E s:=by
 refine(show wpAny (model prog w) A (field (.ref z) 2 >>= _) _ E s from wpAny_bind (wpAny_field hz rfl (x:=.bool false) rfl ?_));refine(show wpAny (model prog w) A (field (.ref z) 3 >>= _) _ E s from wpAny_bind (wpAny_field hz rfl (x:=.ref ti) rfl (wpAny_bind (wpAny_seqItems Yj rfl ?_))));refine(show wpAny (model prog w) A ((field (.ref z) 0 >>= _) >>= _) _ E s from wpAny_bind (wpAny_bind (wpAny_field hz rfl (x:=.none) rfl (wpAny_pure ?_))));rw[if_pos (by rfl)];refine wpAny_bind (wpAny_rule (wpAny_bind (wpAny_field hz rfl (x:=.ref to) rfl (wpAny_bind (wpAny_setField_rec hz (by simp) fun g1 zg b1=>?_)))));have zg:IsZip g1 z ti to .ellipsis:=zg;rw[show(#[Value.ref i1,.ref i2]:Array Value).toList.zipIdx= [(Value.ref i1,0),(.ref i2,1)]from rfl];refine wpAny_bind ?_;rw[List.forIn_cons];refine wpAny_bind (wpAny_bind (wpAny_onRaise ?_));refine(show wpAny (model prog w) A (Builtin.SmallTypes.nextOf (.ref i1) >>= _) _ _ _ from wpAny_bind (D1.item j _ _ _ l1 (Draws.but D1 s1 b1.extBut Z.z1) fun x g2 k2 px t1 b2=>wpAny_pure ?_));have to2:IsPair g2 to a b:=b2.extBut _ _ Z.a8 (b1.extBut _ _ Z.a2 Yi);refine wpAny_bind (wpAny_seqItems to2 rfl (wpAny_bind (wpAny_updateSeq_pair to2 fun g3 to3 b3=>wpAny_bind (wpAny_letGo (wpAny_pure ?_)))));have to3:IsPair g3 to x b:=to3;dsimp only;rw[List.forIn_cons];refine wpAny_bind (wpAny_bind (wpAny_onRaise ?_));refine(show wpAny (model prog w) A (Builtin.SmallTypes.nextOf (.ref i2) >>= _) _ _ _ from wpAny_bind (D2.item j _ _ _ l2 (Draws.but D2 (Draws.but D2 (Draws.but D2 s2 b1.extBut Z.z2) b2.extBut Z.o2) b3.extBut Z.t2) fun y g4 k4 py t2 b4=>wpAny_pure ?_))
 have to4:IsPair g4 to x b:=b4.extBut _ _ Z.a9 to3;refine wpAny_bind (wpAny_seqItems to4 rfl (wpAny_bind (wpAny_updateSeq_pair to4 fun g5 to5 b5=>wpAny_bind (wpAny_letGo (wpAny_pure ?_)))));have to5:IsPair g5 to x y:=to5;dsimp only;rw[List.forIn_nil];refine wpAny_pure (wpAny_bind (wpAny_seqItems to5 rfl (wpAny_bind (wpAny_newTuple ?_))));have kz:∀c o,c≠to→c≠i1→c≠i2→g1.get? c=some o→g5.get? c=some o:=fun c o c1 c2 c3 q=>b5.extBut _ _ c1 (b4.extBut _ _ c3 (b3.extBut _ _ c1 (b2.extBut _ _ c2 q)));have z5:IsZip g5 z ti to .ellipsis:=kz _ _ (Ne.symm Z.a2) (Ne.symm Z.a3) (Ne.symm Z.a4) zg;have sz:g5.objs.size=s.heap.objs.size:=by rw[b5.1,b4.1,b3.1,b2.1,b1.1]
 have u1:S1 (j+1) g5:=Draws.but D1 (Draws.but D1 (Draws.but D1 t1 b3.extBut Z.t1) b4.extBut Z.o1) b5.extBut Z.t1;have u2:S2 (j+1) g5:=Draws.but D2 t2 b5.extBut Z.t2;have z6:IsZip (g5.push { cls:=.type "tuple",data:=.seq #[x,y] }) z ti to .ellipsis:=Heap.get?_push_of_some _ z5;refine(show wpAny (model prog w) A ((setField (.ref z) 0 _ >>= _) >>= _) _ E _ from wpAny_bind (wpAny_bind (wpAny_setField_rec z6 (by simp) fun g7 z7 b7=>?_)));refine(show wpAny (model prog w) A (setField (.ref z) 1 _) _ E _ from wpAny_setField_rec (show IsZip g7 z ti to (rawInt g5.objs.size)from z7) (by simp) fun g8 z8 b8=>?_);have z8:IsZip g8 z ti to (rawInt g5.objs.size):=z8;have lz:z<g5.objs.size:=Heap.lt_size z5;have p8:IsPair g8 g5.objs.size x y:=b8.extBut _ _ (Nat.ne_of_gt lz) (b7.extBut _ _ (Nat.ne_of_gt lz) (Heap.get?_push_size _ rfl));have k8:∀c o,c≠z→g5.get? c=some o→g8.get? c=some o:=fun c o c1 q=>b8.extBut _ _ c1 (b7.extBut _ _ c1 (Heap.get?_push_of_some _ q));have s8:g8.objs.size=g5.objs.size+1:=by rw[b8.1,b7.1,Heap.size_push]
 have v1:S1 (j+1) g8:=D1.frame _ _ _ u1 fun c hc o q=>k8 c o (fun y=>Z.z1 (y▸hc)) q;have v2:S2 (j+1) g8:=D2.frame _ _ _ u2 fun c hc o q=>k8 c o (fun y=>Z.z2 (y▸hc)) q;rw[sz]at z8 p8 s8;refine wpAny_pure ⟨_,rfl,?_⟩;have q:=hQ x y g8 k4 px py z8 (k8 _ _ Z.a2 to5) v1 v2 p8 s8 fun c o c1 c2 c3 c4 q=>k8 c o c1 (kz c o c2 c3 c4 (b1.extBut _ _ c1 q));rw[← sz]at q;exact q
theorem Co{j:Nat}{a b:Value}{R:Fin→Shared→Prop}(Z:Y0 z ti to i1 i2 f1 f2)(D1:Draws prog w A i1 f1 n1 P1 S1)(D2:Draws prog w A i2 f2 n2 P2 S2)
  (hz:IsZip s.heap z ti to .none) (Yj:IsPair s.heap ti (.ref i1) (.ref i2)) (Yi:IsPair s.heap to a b) (s1:S1 j s.heap) (s2:S2 j s.heap) (l:j=n1∨(j<n1∧j=n2))
  (hE:∀h' e tk,(∀c o,c≠z→c≠to→c≠i1→c≠i2→s.heap.get? c=some o→h'.get? c=some o)→(∃o,h'.get? e=some o∧o.cls=.type "StopIteration")→E (.ref e) { s with heap:=h',toks:=tk }):
  wpAny (model prog w) A (Builtin.«zip.__next__» ⟨[.ref z],[]⟩) R E s:=by
 refine(show wpAny (model prog w) A (field (.ref z) 2 >>= _) _ E s from wpAny_bind (wpAny_field hz rfl (x:=.bool false) rfl ?_));refine(show wpAny (model prog w) A (field (.ref z) 3 >>= _) _ E s from wpAny_bind (wpAny_field hz rfl (x:=.ref ti) rfl (wpAny_bind (wpAny_seqItems Yj rfl ?_))));refine(show wpAny (model prog w) A ((field (.ref z) 0 >>= _) >>= _) _ E s from wpAny_bind (wpAny_bind (wpAny_field hz rfl (x:=.none) rfl (wpAny_pure ?_))));rw[if_pos (by rfl)];refine wpAny_bind (wpAny_rule (wpAny_bind (wpAny_field hz rfl (x:=.ref to) rfl (wpAny_bind (wpAny_setField_rec hz (by simp) fun g1 zg b1=>?_)))));have zg:IsZip g1 z ti to .ellipsis:=zg;rw[show(#[Value.ref i1,.ref i2]:Array Value).toList.zipIdx= [(Value.ref i1,0),(.ref i2,1)]from rfl];refine wpAny_bind ?_;rw[List.forIn_cons];refine wpAny_bind (wpAny_bind (wpAny_onRaise ?_))
 have go:∀(g:Heap)(e:Addr)(k:Nat),IsZip g z ti to .ellipsis→(∀c o,c≠z→c≠to→c≠i1→c≠i2→s.heap.get? c=some o→g.get? c=some o)→(∃o,g.get? e=some o∧o.cls=.type "StopIteration")→
   wpAny (model prog w) A (setField (.ref z) 0 .none) (fun _ s'=>E (.ref e) s') E { s with heap:=g,toks:=k }:=fun g e k zz kk ⟨oe,q1,q2⟩=>by
  have ne:e≠z:=fun y=>by subst y;rw[zz]at q1;cases q1;simp at q2
  exact wpAny_setField_rec zz (by simp) fun g' _ bb=>hE g' e k (fun c o c1 c2 c3 c4 q=>bb.extBut _ _ c1 (kk c o c1 c2 c3 c4 q)) ⟨oe,bb.extBut _ _ ne q1,q2⟩
 rcases l with l|⟨l1,l⟩
 ·subst l;refine(show wpAny (model prog w) A (Builtin.SmallTypes.nextOf (.ref i1) >>= _) _ _ _ from wpAny_bind (D1.done _ _ _ (Draws.but D1 s1 b1.extBut Z.z1) fun g2 e b2 q=>?_));exact go g2 e _ (b2 _ _ (Ne.symm Z.a3) zg) (fun c o c1 _ c3 _ q=>b2 _ _ c3 (b1.extBut _ _ c1 q)) q
 ·subst l;refine(show wpAny (model prog w) A (Builtin.SmallTypes.nextOf (.ref i1) >>= _) _ _ _ from wpAny_bind (D1.item j _ _ _ l1 (Draws.but D1 s1 b1.extBut Z.z1) fun x g2 k2 px t1 b2=>wpAny_pure ?_));have to2:IsPair g2 to a b:=b2.extBut _ _ Z.a8 (b1.extBut _ _ Z.a2 Yi);refine wpAny_bind (wpAny_seqItems to2 rfl (wpAny_bind (wpAny_updateSeq_pair to2 fun g3 to3 b3=>wpAny_bind (wpAny_letGo (wpAny_pure ?_)))));dsimp only;rw[List.forIn_cons];refine wpAny_bind (wpAny_bind (wpAny_onRaise ?_));refine(show wpAny (model prog w) A (Builtin.SmallTypes.nextOf (.ref i2) >>= _) _ _ _ from wpAny_bind (D2.done _ _ _ (Draws.but D2 (Draws.but D2 (Draws.but D2 s2 b1.extBut Z.z2) b2.extBut Z.o2) b3.extBut Z.t2) fun g4 e b4 q=>?_));exact go g4 e _ (b4 _ _ (Ne.symm Z.a4) (b3.extBut _ _ (Ne.symm Z.a2) (b2.extBut _ _ (Ne.symm Z.a3) zg))) (fun c o c1 c2 c3 c4 q=>b4 _ _ c4 (b3.extBut _ _ c2 (b2.extBut _ _ c3 (b1.extBut _ _ c1 q)))) q
theorem AY{j:Nat}{a b:Value}{Q:Option Value→Shared→Prop}(Z:Y0 z ti to i1 i2 f1 f2)(D1:Draws prog w A.in1 i1 f1 n1 P1 S1)(D2:Draws prog w A.in1 i2 f2 n2 P2 S2)
  (hz:IsZip s.heap z ti to .none) (Yj:IsPair s.heap ti (.ref i1) (.ref i2)) (Yi:IsPair s.heap to a b) (s1:S1 j s.heap) (s2:S2 j s.heap) (l1:j<n1) (l2:j<n2)
  (hQ:∀x y h' tk,P1 j x→P2 j y→IsZip h' z ti to (rawInt s.heap.objs.size)→IsPair h' to x y→S1 (j+1) h'→S2 (j+1) h'→IsPair h' s.heap.objs.size x y→h'.objs.size=s.heap.objs.size+1→
   (∀c o,c≠z→c≠to→c≠i1→c≠i2→s.heap.get? c=some o→h'.get? c=some o)→Q (some (.ref s.heap.objs.size)) { s with heap:=h',toks:=tk }):wpAny (model prog w) A (pyNext (.ref z)) Q E s:=by
 have ty:s.TypeIs (.ref z) "zip":=⟨_,hz,rfl⟩
 unfold pyNext;exact wpAny_bind (wpAny_attempt (wpAny_callSpecial?_slot (name:="__next__") ty F.slot_zip_next (wpAny_call_entry F.slot_zip_next ty F.entry_zip_next (zt Z D1 D2 hz Yj Yi s1 s2 l1 l2 fun x y h' tk p1 p2 q1 q2 q3 q4 q5 q6 q7=>wpAny_pure (hQ x y h' tk p1 p2 q1 q2 q3 q4 q5 q6 q7)) (F.args_zip_next_1 _))))
theorem Bj{j:Nat}{a b:Value}{Q:Option Value→Shared→Prop}(Z:Y0 z ti to i1 i2 f1 f2)(D1:Draws prog w A.in1 i1 f1 n1 P1 S1)(D2:Draws prog w A.in1 i2 f2 n2 P2 S2)
  (hz:IsZip s.heap z ti to .none) (Yj:IsPair s.heap ti (.ref i1) (.ref i2)) (Yi:IsPair s.heap to a b) (s1:S1 j s.heap) (s2:S2 j s.heap) (l:j=n1∨(j<n1∧j=n2))
  (hQ:∀h' tk,(∀c o,c≠z→c≠to→c≠i1→c≠i2→s.heap.get? c=some o→h'.get? c=some o)→Q none { s with heap:=h',toks:=tk }):wpAny (model prog w) A (pyNext (.ref z)) Q E s:=by
 have ty:s.TypeIs (.ref z) "zip":=⟨_,hz,rfl⟩
 unfold pyNext;refine wpAny_bind (wpAny_attempt (wpAny_callSpecial?_slot (name:="__next__") ty F.slot_zip_next (wpAny_call_entry F.slot_zip_next ty F.entry_zip_next (Co Z D1 D2 hz Yj Yi s1 s2 l ?_) (F.args_zip_next_1 _))));rintro h' e tk kk ⟨o,q1,q2⟩;exact wpAny_bind (wpAny_isInstance (T:="StopIteration") (b:=true) ⟨o,q1,q2⟩ isSubtype_stop (wpAny_pure (hQ _ _ kk)))
noncomputable def xj(a b:Value):Obj:={ cls:=.type "tuple",data:=.seq #[a,b] }
noncomputable def JH(a b:Addr):Obj:={ cls:=.type "zip",data:=.fields #[.none,.bool false,.bool false,.ref a,.ref b] }
abbrev Y6(h:Heap)(a b:Addr):Heap:=(h.push (ij a)).push (ij b)
abbrev Y5(h:Heap)(a b:Addr):Heap:=(Y6 h a b).push (xj (.ref h.objs.size) (.ref (h.push (ij a)).objs.size))
abbrev zh4(h:Heap)(a b:Addr):Heap:=(Y5 h a b).push (xj .none .none)
abbrev XH(h:Heap)(a b:Addr):Heap:=(zh4 h a b).push (JH (Y6 h a b).objs.size (Y5 h a b).objs.size)
theorem AZ(a b:Addr)(xs ys:Array Value):Meets (Builtin.«zip.__new__» ⟨[.type "zip",.ref a,.ref b],[]⟩) (fun _ R s=>s.heap.IsTuple a xs∧s.heap.IsTuple b ys∧R (.ok (.ret (.ref (zh4 s.heap a b).objs.size))) { s with heap:=XH s.heap a b }):=
 .of_wp fun P1 w1 A1 R s ⟨ta,tb,h⟩=>by
  cases s with
  |mk hp gs dd tk os=>
  have sub:=sub_zip;have t1:Heap.IsTuple hp a xs:=ta;have t2:Heap.IsTuple (hp.push (ij a)) b ys:=by obtain⟨o,q,r⟩:=tb;exact⟨o,Heap.get?_push_of_some _ q,r⟩
  wp_walk using wpAny_pyIter_tuple t1,wpAny_pyIter_tuple t2
  exact⟨_,rfl,h⟩
end
section
variable{prog:Program}{w:World}{A:Around}{E:Value→Shared→Prop}{s:Shared}
theorem ze{a b:Addr}{xs ys:Array Value}{Q:Value→Shared→Prop}(ta:s.heap.IsTuple a xs)(tb:s.heap.IsTuple b ys)
  (h:∀h',(∀c o,s.heap.get? c=some o→h'.get? c=some o)→h'.get? s.heap.objs.size=some (ij a)→h'.get? (s.heap.objs.size+1)=some (ij b)→IsPair h' (s.heap.objs.size+2) (.ref s.heap.objs.size) (.ref (s.heap.objs.size+1))→IsPair h' (s.heap.objs.size+3) .none .none→
   IsZip h' (s.heap.objs.size+4) (s.heap.objs.size+2) (s.heap.objs.size+3) .none→Q (.ref (s.heap.objs.size+4)) { s with heap:=h' }):wpAny (model prog w) A (call (.type "zip") [.ref a,.ref b]) Q E s:=by
 refine callType_new F.called_zip (by decide) (F.typeCall_zip_2 _ _) (F.newCall_zip_2 _ _) (fun obj=>F.args_object_init_3 obj _ _) F.entry_zip_new (AZ a b xs ys) ⟨ta,tb,?_⟩;have z1:(s.heap.push (ij a)).objs.size=s.heap.objs.size+1:=Heap.size_push ..;have z2:(Y6 s.heap a b).objs.size=s.heap.objs.size+2:=by rw[Heap.size_push,z1]
 have z3:(Y5 s.heap a b).objs.size=s.heap.objs.size+3:=by rw[Heap.size_push,z2]
 have z4:(zh4 s.heap a b).objs.size=s.heap.objs.size+4:=by rw[Heap.size_push,z3]
 have up:∀{h:Heap}{o p:Obj}{c:Addr},h.get? c=some o→(h.push p).get? c=some o:=fun e=>Heap.get?_push_of_some _ e;have g0:(XH s.heap a b).get? s.heap.objs.size=some (ij a):=up (up (up (up (Heap.get?_push_size _ rfl))));have g1:(XH s.heap a b).get? (s.heap.push (ij a)).objs.size=some (ij b):=up (up (up (Heap.get?_push_size _ rfl)));have g2:(XH s.heap a b).get? (Y6 s.heap a b).objs.size=some (xj (.ref s.heap.objs.size) (.ref (s.heap.push (ij a)).objs.size)):=up (up (Heap.get?_push_size _ rfl));have g3:(XH s.heap a b).get? (Y5 s.heap a b).objs.size=some (xj .none .none):=up (Heap.get?_push_size _ rfl);have g4:(XH s.heap a b).get? (zh4 s.heap a b).objs.size=some (JH (Y6 s.heap a b).objs.size (Y5 s.heap a b).objs.size):=Heap.get?_push_size _ rfl;rw[z1]at g1;rw[z2,z1]at g2;rw[z3]at g3;rw[z4,z2,z3]at g4;have q:=h (XH s.heap a b) (fun c o e=>up (up (up (up (up e))))) g0 g1 g2 g3 g4;refine⟨⟨_,by rw[z4];exact g4,rfl⟩,?_⟩;rw[z4];exact q
end
section
variable{X:Cx}{pins:List (Addr×Obj)}{σ:St}{H:Hp}{s:Shared}{h':Heap}{ch:List Addr}
theorem Inv.W7{t':Nat}(I:Inv X pins σ H s)(k2:∀b o,b∉ch→s.heap.get? b=some o→h'.get? b=some o)(f:∀c∈ch,iX X pins H c):Inv X pins σ H { s with heap:=h',toks:=t' }:=by
 have nt:∀b u,H b=some u→b∉ch:=fun b u e z=>by rw[(f b z).1]at e;cases e
 refine I.step (g':=s.gens) (d':=s.drawn) (ch:=ch) (fun b hb=>⟨(f b hb).2.2.2.1,(f b hb).2.1,(f b hb).2.2.2.2.1,(f b hb).2.2.2.2.2⟩) (fun b o _ _ hc e _=>k2 b o hc e) (fun b o _ _ hc e _=>⟨o.slots,k2 b o hc e⟩) (fun _ _ _ _ n=>n)
  (fun b o hc e=>⟨o,k2 b o hc e⟩) (fun _ _ e=>e) (fun _ _ _ e=>e) (fun b ps e=>⟨#[],by rw[e];simp⟩) (fun m hm=>?_) (fun b u e=>?_) I.bare
 ·obtain⟨o,es,ep,ho,r⟩:=hm;exact⟨o,es,ep,k2 _ o (fun z=>(f _ z).2.1 rfl) ho,r⟩
 ·refine(I.hok b u e).stay (fun c v hc q=>k2 c v ?_ q) (fun _ q=>q) fun _ _ q=>q;rcases hc with z|z
  ·rw[z];exact nt b u e
  ·exact nt c _ z
theorem Inv.V_{t':Nat}{a:Addr}{o:HO}(I:Inv X pins σ H s)(k2:∀b o,b∉ch→s.heap.get? b=some o→h'.get? b=some o)(f:∀c∈ch,iX X pins H c)(hp:s.heap.objs.size≤a)(new:bq X.prog X.w (upd H a o) h' a o):
  Inv X pins σ (upd H a o) { s with heap:=h',toks:=t' }:=by
 have hn:H a=none:=I.hok.fresh hp;have nt:∀b u,H b=some u→b∉ch:=fun b u e z=>by rw[(f b z).1]at e;cases e
 refine I.step (g':=s.gens) (d':=s.drawn) (ch:=ch) (fun b hb=>⟨(f b hb).2.2.2.1,(f b hb).2.1,(f b hb).2.2.2.2.1,(f b hb).2.2.2.2.2⟩) (fun b o _ _ hc e _=>k2 b o hc e) (fun b o _ _ hc e _=>⟨o.slots,k2 b o hc e⟩) (fun b ob _ q n=>by rw[aj (Nat.ne_of_lt (Nat.lt_of_lt_of_le (Heap.lt_size q) hp))];exact n)
  (fun b o hc e=>⟨o,k2 b o hc e⟩) (fun b xs q=>by rw[aj (ar q hn)];exact q) (fun b u xs q=>by rw[aj (ar q hn)];exact q) (fun b ps q=>⟨#[],by rw[aj (ar q hn),q];simp⟩) (fun m hm=>?_) (fun b u e=>?_) I.bare
 ·obtain⟨o,es,ep,ho,r⟩:=hm;exact⟨o,es,ep,k2 _ o (fun z=>(f _ z).2.1 rfl) ho,r⟩
 ·by_cases hb:b=a
  ·subst hb;rw[aA]at e;cases e;exact new
  ·rw[aj hb]at e;refine(I.hok b u e).stay (fun c v hc q=>k2 c v ?_ q) (fun c q=>by rw[aj (ar q hn)];exact q) fun c xs q=>by rw[aj (ar q hn)];exact q
   rcases hc with z|z
   ·rw[z];exact nt b u e
   ·exact nt c _ z
end
def Itz(q1 q2:Hp→List V→Prop):It:=
  ⟨fun i H=>∃xs ys x y,q1 H xs∧q2 H ys∧xs[i]? =some x∧ys[i]? =some y,fun i H x H'=>∃p y1 y2,H p=none∧x=.ref p∧H'=upd H p (.tup [y1,y2])∧(∀xs,q1 H xs→xs[i]? =some y1)∧∀ys,q2 H ys→ys[i]? =some y2,
   fun i H=>∃xs ys,q1 H xs∧q2 H ys∧(i=xs.length∨(i<xs.length∧i=ys.length))⟩
section
variable{P:Program}{w:World}{K:W.Frag}{elts:List Expr}{k:Nat}{pos:Pos}
theorem zC{q1 q2:Hp→List V→Prop}{j1 j2:Nat→Heap→Prop}{a b z ti to i1 i2:Addr}(A1:Src P w K a i1 q1 j1)(A2:Src P w K b i2 q2 j2)(Z:Y0 z ti to i1 i2 [i1,a] [i2,b]):
  uV P w K (.Tuple elts k pos) (Itz q1 q2) [z,ti,to,i1,i2] z (fun i h=>IsZip h z ti to .none∧IsPair h ti (.ref i1) (.ref i2)∧(∃u v,IsPair h to u v)∧j1 i h∧j2 i h) where
 mem:=by simp
 obj:=fun i h ⟨hz,h1,⟨u,v,h2⟩,s1,s2⟩ b hb=>by
  simp only[List.mem_cons,List.not_mem_nil,or_false]at hb;rcases hb with y|y|y|y|y
  ·rw[y];exact⟨_,hz,fun v z=>by cases z⟩
  ·rw[y];exact⟨_,h1,fun v z=>by cases z⟩
  ·rw[y];exact⟨_,h2,fun v z=>by cases z⟩
  ·rw[y];exact A1.obj _ _ s1
  ·rw[y];exact A2.obj _ _ s2
 keep:=(by rintro i h h' ⟨hz,h1,⟨u,v,h2⟩,s1,s2⟩ q;exact ⟨q z (by simp) _ hz,q ti (by simp) _ h1,⟨u,v,q to (by simp) _ h2⟩,A1.keep _ _ _ s1 fun o ho=>q i1 (by simp) _ ho,A2.keep _ _ _ s2 fun o ho=>q i2 (by simp) _ ho⟩)
 item:=by
  intro X hP hw hK hc i pins s σ H E I hf st hg;obtain⟨xs,ys,x,y,YH,YG,hx,hy⟩:=hg;obtain⟨hz,h1,⟨u0,v0,h2⟩,s1,s2⟩:=st;obtain⟨its,St1,rv1,D1,t1,t1'⟩:=A1.get X pins σ H s xs hP hw hK hc I YH;obtain⟨jts,St2,rv2,D2,t2,t2'⟩:=A2.get X pins σ H s ys hP hw hK hc I YG;subst hP hw hK;obtain⟨u,hu,ru⟩:=rv1.get hx;obtain⟨v,hv,rv⟩:=rv2.get hy;refine AY Z D1 D2 hz h1 h2 (t1 _ s1) (t2 _ s2) (List.getElem?_eq_some_iff.mp hu).1 (List.getElem?_eq_some_iff.mp hv).1 fun u' v' h' tk pu pv z' p' w1 w2 pr sz kk=>?_;rw[hu]at pu
  cases pu
  rw[hv]at pv
  cases pv
  refine⟨_,rfl,?_⟩;refine wpAny_letOwnedTupleGo_zip z' fun VN z2 sb=>?_;have lt:z<s.heap.objs.size:=Heap.lt_size hz;have fr:H s.heap.objs.size=none:=I.hok.fresh (abl _)
  have kk2:∀b o,b∉ [z,ti,to,i1,i2]→s.heap.get? b=some o→VN.get? b=some o:=fun b o nb q=>by simp only[List.mem_cons,List.not_mem_nil,or_false,not_or]at nb;exact(sb.2 b nb.1).trans (kk b o nb.1 nb.2.2.1 nb.2.2.2.1 nb.2.2.2.2 q)
  have pr2:IsPair VN s.heap.objs.size u v:=(sb.2 _ (Nat.ne_of_gt lt)).trans pr;have hok:bq X.prog X.w (upd H s.heap.objs.size (.tup [x,y])) VN s.heap.objs.size (.tup [x,y]):=⟨by show 2≤sizeLine;decide,[u,v],.cons ru (.cons rv .nil),⟨_,pr2,rfl,_,rfl⟩⟩
  have up:∀b o,b≠z→h'.get? b=some o→VN.get? b=some o:=fun b o nb q=>(sb.2 b nb).trans q;refine⟨.ref s.heap.objs.size,upd H s.heap.objs.size (.tup [x,y]),I.V_ kk2 hf (abl _) hok,rfl,⟨_,x,y,fr,rfl,rfl,fun xs' h=>by rw[A1.inj X pins σ H s _ _ rfl I h YH];exact hx,fun ys' h=>by rw[A2.inj X pins σ H s _ _ rfl I h YG];exact hy⟩,⟨z2,up _ _ Z.a1 (kk _ _ Z.a1 Z.a5 Z.a6 Z.a7 h1),⟨u,v,up _ _ Z.a2 p'⟩,A1.keep _ _ _ (t1' _ _ w1) fun o q=>up _ _ Z.a3 q,A2.keep _ _ _ (t2' _ _ w2) fun o q=>up _ _ Z.a4 q⟩,fun b hb=>?_⟩
  rw[aj (fun y=>by
   have lb:b<s.heap.objs.size:=by
    simp only[List.mem_cons,List.not_mem_nil,or_false]at hb;rcases hb with y|y|y|y|y
    ·rw[y];exact lt
    ·rw[y];exact Heap.lt_size h1
    ·rw[y];exact Heap.lt_size h2
    ·rw[y];obtain⟨o,ho,_⟩:=A1.obj _ _ s1;exact Heap.lt_size ho
    ·rw[y];obtain⟨o,ho,_⟩:=A2.obj _ _ s2;exact Heap.lt_size ho
   exact absurd y (Nat.ne_of_lt lb))]
  exact(hf b hb).1
 done:=by
  intro X hP hw hK hc i pins s σ H E I hf st hg;obtain⟨xs,ys,YH,YG,l⟩:=hg;obtain⟨hz,h1,⟨u0,v0,h2⟩,s1,s2⟩:=st;obtain⟨its,St1,rv1,D1,t1,t1'⟩:=A1.get X pins σ H s xs hP hw hK hc I YH;obtain⟨jts,St2,rv2,D2,t2,t2'⟩:=A2.get X pins σ H s ys hP hw hK hc I YG;subst hP hw hK;rw[rv1.length,rv2.length]at l
  exact Bj Z D1 D2 hz h1 h2 (t1 _ s1) (t2 _ s2) l fun h' tk kk=>⟨rfl,I.W7 (ch:=[z,ti,to,i1,i2]) (fun b o nb q=>by simp only[List.mem_cons,List.not_mem_nil,or_false,not_or]at nb;exact kk b o nb.1 nb.2.2.1 nb.2.2.2.1 nb.2.2.2.2 q) hf⟩
 self:=fun A i s Q E st h=>wpAny_pyIter_zip st.1 h
end
section
variable{X:Cx}{elts:List Expr}{k:Nat}{pos p p1:Pos}
def LJ(K:W.Frag)(ta:TA):TI:=fun σ H R=>ta σ H fun vs H1=>∃a b,vs= [.ref a,.ref b]∧(∃xs,PN K H1 a xs)∧(∃ys,PN K H1 b ys)∧R (Itz (fun H xs=>PN K H a xs) (fun H ys=>PN K H b ys)) H1
theorem Cp(n a b:Nat)(la:a<n)(lb:b<n):Y0 (n+4) (n+2) (n+3) n (n+1) [n,a] [n+1,b]:=by
 have l:∀{i j:Nat},i<j→(n+i:Nat)≠n+j:=fun h=>Nat.ne_of_lt (Nat.add_lt_add_left h n)
 have m:∀{x y z:Nat},x≠y→x≠z→x∉ [y,z]:=fun h1 h2 h=>by
  rcases List.mem_cons.mp h with q|q
  ·exact h1 q
  ·exact h2 (List.mem_singleton.mp q)
 have g:∀{i c:Nat},c<n→(n+i:Nat)≠c:=fun h=>Nat.ne_of_gt (Nat.lt_of_lt_of_le h (Nat.le_add_right n _));have d:∀{i j:Nat},i>j→(n+i:Nat)≠n+j:=fun h=>Ne.symm (l h)
 exact⟨l (i:=2) (by decide),l (i:=3) (by decide),l (i:=0) (j:=4) (by decide),l (i:=1) (by decide),l (i:=2) (by decide),d (i:=2) (j:=0) (by decide),d (i:=2) (by decide),d (i:=3) (j:=0) (by decide),d (i:=3) (by decide),
  m (d (i:=4) (j:=0) (by decide)) (g la),m (d (i:=4) (by decide)) (g lb),m (d (i:=3) (j:=0) (by decide)) (g la),m (d (i:=3) (by decide)) (g lb),m (d (i:=1) (j:=0) (by decide)) (g la),m (l (i:=0) (by decide)) (g (i:=0) lb)⟩
theorem Dw{a b:Expr}{ta:TA}(hg:Gl X "zip")(hm:X.mg "zip"=none)(ha:PA X [a,b] ta)(hs:starEach [a,b] X.env=(false,eval a X.env)::starEach [b] X.env:=by rfl)(J3:(backTo p1 (starEach [b] X.env)).any (·.1)=false:=by rfl):PI X (.Tuple elts k pos) (.Call (.Name "zip" p) [a,b] [] p1) (LJ X.K ta):=by
 intro pins s σ H R I h;refine Call_ (gm I hg hm (show bootBuiltins "zip"=some (.type "zip") by decide+kernel) (PyProof.Rows.callWith_type1 (G4 (ha p1 pins s σ H _ I h) ?_) hs J3));rintro us s1 ⟨vs,H1,I1,r1,q1⟩;obtain⟨a,b,e,⟨xs,YH⟩,⟨ys,YG⟩,q⟩:=q1;subst e
 cases r1 with
 |cons r rr=>
  cases rr with
  |cons r' rr=>
   cases rr
   cases r
   cases r'
   obtain⟨its,rv1,t1,hz1⟩:=I1.tuple YH;obtain⟨jts,rv2,t2,hz2⟩:=I1.tuple YG;have la:a<s1.heap.objs.size:=by obtain⟨o,ho,_⟩:=t1;exact Heap.lt_size ho
   have lb:b<s1.heap.objs.size:=by obtain⟨o,ho,_⟩:=t2;exact Heap.lt_size ho
   refine ze (show s1.heap.IsTuple a its.toArray from t1) (show s1.heap.IsTuple b jts.toArray from t2) fun h' kk g0 g1 g2 g3 g4=>?_;refine wpAny_pyIter_zip g4 ?_;have Z:=Cp s1.heap.objs.size a b la lb;refine⟨_,_,_,_,H1,rfl,I1.kept (t':=s1.toks) kk,zC (qY (a:=a) (it:=s1.heap.objs.size) (Nat.ne_of_lt la)) (qY (a:=b) (it:=s1.heap.objs.size+1) (Nat.ne_of_lt (Nat.lt_succ_of_lt lb))) Z,⟨g4,g2,⟨_,_,g3⟩,⟨_,g0,rfl,rfl⟩,⟨_,g1,rfl,rfl⟩⟩,fun c hc=>?_,q⟩
   have U8:s1.heap.objs.size≤c:=by
    simp only[List.mem_cons,List.not_mem_nil,or_false]at hc;rcases hc with y|y|y|y|y
    ·rw[y];exact Nat.le_add_right _ _
    ·rw[y];exact Nat.le_add_right _ _
    ·rw[y];exact Nat.le_add_right _ _
    ·rw[y];exact abl _
    ·rw[y];exact Nat.le_add_right _ _
   exact I1.T8 U8 (I1.hok.fresh U8)
end
end L2
namespace L3
open PySem PySem.Spec PyProof.Rows L2
noncomputable def V2:List PV→List PV→List PV
 |x::r,y::t=>.tup [x,y]::V2 r t
 |_,_=> []
theorem mR:∀(xs ys:List PV),(V2 xs ys).length=min xs.length ys.length
 |[],ys=>by simp[V2]
 |_::_,[]=>by simp[V2]
 |_::r,_::t=>by simp only[V2,List.length_cons,mR r t];omega
theorem wC:∀(xs ys:List PV)(i:Nat)(x y:PV),xs[i]? =some x→ys[i]? =some y→(V2 xs ys)[i]? =some (PV.tup [x,y])
 |[],_,_,_,_,h,_=>by simp at h
 |_::_,[],_,_,_,_,h=>by simp at h
 |_::r,_::t,0,x,y,h1,h2=>by
  rw[List.getElem?_cons_zero]at h1 h2
  cases h1
  cases h2
  rfl
 |_::r,_::t,i+1,x,y,h1,h2=>by rw[List.getElem?_cons_succ]at h1 h2;rw[V2,List.getElem?_cons_succ];exact wC r t i x y h1 h2
section
variable{K:W.Frag}{T:Tab}{F H:Hp}{m:List Addr}
theorem EI{q1 q2:Hp→List V→Prop}{xs ys:List PV}{vs ws:List V}(t1:∀F1 H1,cA F F1→cA F1 H1→q1 H1 vs)(t2:∀F1 H1,cA F F1→cA F1 H1→q2 H1 ws)(r1:au K T F m xs vs)(r2:au K T F m ys ws):sM K T (Itz q1 q2) (V2 xs ys) F m H:=by
 have a1:∀{F1:Hp}{m1:List Addr}{h1:List PO}{H1:Hp},aP F m H F1 m1 H1→RelH K T F1 m1 h1 H1→q1 H1 vs:=fun s R=>t1 _ _ s.fz R.same;have a2:∀{F1:Hp}{m1:List Addr}{h1:List PO}{H1:Hp},aP F m H F1 m1 H1→RelH K T F1 m1 h1 H1→q2 H1 ws:=fun s R=>t2 _ _ s.fz R.same;have l1:=r1.length;have l2:=r2.length;refine⟨fun i F1 m1 h1 H1 s R hi=>?_,fun i F1 m1 h1 H1 v H2 s R hi y=>?_,fun F1 m1 h1 H1 s R=>⟨vs,ws,a1 s R,a2 s R,by rw[mR];omega⟩⟩
 ·rw[mR]at hi;have i1:i<vs.length:=by omega
  have i2:i<ws.length:=by omega
  exact⟨vs,ws,vs[i],ws[i],a1 s R,a2 s R,List.getElem?_eq_getElem i1,List.getElem?_eq_getElem i2⟩
 ·obtain⟨p,y1,y2,hp,rfl,rfl,g1,g2⟩:=y;rw[mR]at hi;have i1:i<xs.length:=by omega
  have i2:i<ys.length:=by omega
  obtain⟨v1,b1,c1⟩:=r1.get (List.getElem?_eq_getElem i1);obtain⟨v2,b2,c2⟩:=r2.get (List.getElem?_eq_getElem i2);have e1:=g1 vs (a1 s R);rw[b1]at e1
  cases e1
  have e2:=g2 ws (a2 s R);rw[b2]at e2
  cases e2
  obtain⟨s2,R2⟩:=aP.lay (o:=.tup [y1,y2]) R hp;exact⟨_,_,.tup [xs[i],ys[i]],s2,R2,wC xs ys i _ _ (List.getElem?_eq_getElem i1) (List.getElem?_eq_getElem i2),.tup (.inl (.inl aA)) (.cons (s2.rep (s.rep c1)) (.cons (s2.rep (s.rep c2)) .nil))⟩
end
def zq(ps:List PV)(h:List PO):Res (List PV):=match ps with
 |[.tup xs,.tup ys]=>.ok (V2 xs ys) h
 |_=>.bad
def Fx(f:Ax):Ax:=fun ρ h=>(f ρ h).bind zq
section
variable{X:Cx}{T:Tab}{Ew:XK}{a b:Expr}{elts:List Expr}{f:Ax}{k:Nat}{pos p p1:Pos}
theorem GW(hg:Gl X "zip")(hm:X.mg "zip"=none)(ha:RA X T Ew [a,b] f)(hs:starEach [a,b] X.env=(false,eval a X.env)::starEach [b] X.env:=by rfl)(J3:(backTo p1 (starEach [b] X.env)).any (·.1)=false:=by rfl):RI X T Ew (.Tuple elts k pos) (.Call (.Name "zip" p) [a,b] [] p1) (Fx f):=by with_unfolding_all
 intro pins s σ H R I ⟨F,m,ρ,h,RR,w⟩;refine Dw hg hm ha hs J3 pins s σ H R I ⟨F,m,ρ,h,RR,?_⟩;unfold Fx at w
 cases e:f ρ h with
 |bad=>rw[e]at w;exact w
 |exc v h1=>rw[e]at w;exact w
 |ok ps h1=>
  rw[e]at w;intro F1 m1 H1 x s1 R1 r1;have w1:=aB.step s1 (show aB X.K T _ F m H R Ew (zq ps h1)from w);unfold zq at w1
  split at w1
  ·cases r1 with
   |cons r rr=>
    cases rr with
    |cons r' rr=>
     cases rr
     cases r with
     |tup sq rs=>
      cases r' with
      |tup sq' rs'=>exact⟨_,_,rfl,⟨_,R1.same.QB sq⟩,⟨_,R1.same.QB sq'⟩,aB.here w1 R1 fun H=>EI (fun F1 H1 a b=>b.QB (a.QB sq)) (fun F1 H1 a b=>b.QB (a.QB sq')) rs rs'⟩
  ·exact w1.elim
end
end L3
namespace L2
open PySem PySem.Spec PyProof.Rows
section
variable{X:Cx}{k:Nat}{f C:Addr}{fd:FuncData}{ps:List Str}{sp:Sp}{m:Str}{pos apos:Pos}{e o:Expr}{es:List Expr}{ta:TE}{t:TA}
theorem AI{pl:Sem Bool}(he:PE X o ta)(c:Cls X.K C)(hm:eF X.K C m f)(F:oS X.prog X.w X.K X.mg X.base k f fd ps sp)(hr:fO k X.A)(hb:bC X.K fd ps [])(ha:PA X (e::es) t)
  (Rh:sE0 X e es:=by rfl) (J3:sP0 X es pos:=by rfl)
  (ht:eval (.Call (.Attribute o m apos) (e::es) [] pos) X.env=(do
   let ov ← eval o X.env
   standAt apos.atName
   let(f,first) ← holding [ov] (getMethod ov m pl)
   callWith pos f first (backTo pos (starEach (e::es) X.env)) (backToKw pos (keywordEach [] X.env))):=by rfl):
  PE X (.Call (.Attribute o m apos) (e::es) [] pos) (wM C m sp [] E0 ta t):=by
 intro pins s σ H Q I h;refine W.methodCall_KW (pl:=pl) (G4 (he pins s σ H _ I h) ?_) ht;rintro u s1 ⟨x,H1,I1,rx,a,dx,fs,ex,ea,l,q⟩;subst ex;obtain rfl:u=Value.ref a:=rx;refine gn I1 ea c hm l ?_;refine W.callWith_K (first:=[.ref a]) (h₀:=X.base) I.ok.mod.Sd hm.kp (G4 (ha pos pins s1 σ H1 _ I1 q) fun us s2 ⟨vs,H2,I2,r,q2⟩=>⟨I2.Qj,?_⟩) Rh J3;have q2:sp (.ref a::(vs++ [])) H2 Q E0:=q2;rw[List.append_nil]at q2;have rr:aL (.ref a::vs) (.ref a::us):=.cons rfl r;have hl:(Value.ref a::us).length=ps.length:=by rw[← rr.length];exact F.len _ _ _ _ q2
 have bd:=hb s2 (.ref a::us) I2.Qj (by rw[List.append_nil];exact hl);rw[List.append_nil]at bd;refine wpAny_call (codeAny_mono (F.run X.A X.stack s2 H2 ⟨.ref a::us,[]⟩ (.ref a::us) (.ref a::vs) Q E0 hr I2.env0 bd rr q2) fun r s' hq=>?_)
 cases r with
 |error e=>exact hq.elim
 |ok fl=>
  cases fl with
  |ret u=>exact I2.after hq
  |next=>exact False.elim hq
  |brk=>exact False.elim hq
  |cont=>exact False.elim hq
theorem xh{E:XK}(h:∀cls dx H,¬ E cls dx H):cg (PB X.prog X.w) X E:=by intro pins σ H s e s' I c;obtain⟨a,cls,a0,B,H',dx,rfl,os,bare,un,hok,fl,cov,da,q⟩:=c;exact(h _ _ _ q).elim
end
end L2
namespace L3
open PySem PySem.Spec PyProof.Rows L2
def Za(K:W.Frag)(T:Tab)(np:Nat)(fn:List PV→List PO→Res PV):Sp:=fun vs H Q _=>Rz K T np fn vs H Q E0
section
variable{P:Program}{w:World}{K:W.Frag}{mg:Str→Option Value}{base:Heap}{T:Tab}
theorem LP{x qual:Str}{st:Stmt}{f:Addr}{fd:FuncData}{N ps:List Str}{k:Nat}{g:Sx}(Fn:Vp K x qual st f fd)(Sc:dQ N ps (aG st))
  (hb:∀(E_:Value)(A:Around)(outer:List Env)(s:Shared)(H:Hp)(E:XK),fO k (A.deeper (envOfC qual (aG st) s.heap.objs.size f E_))→
   Ud (Z2 P w K mg base N qual (aG st) f E_ A outer s H E) T (fun _ _ _=>False) (bV st) g):
  oS P w K mg base (k+1) f fd ps (Za K T ps.length (bn g ps.length N.length)):=by with_unfolding_all
 refine Jb Fn Sc (fun vs H Q E h=>mW h) fun E_ A outer s H vs Q E hr h=>⟨_,hb E_ A outer s H E hr,?_⟩
 obtain⟨F,m,h,qs,hl,R,r,q⟩:=h;refine⟨F,m,_,h,⟨R,iD r⟩,?_⟩;unfold bn at q;rw[if_pos hl]at q
 cases z:g (qs.map some++List.replicate (N.length - qs.length) none) h with
 |nx ρ h1=>rw[z]at q;exact fun F' m' H' σ' s R'=>fT R s R'.toRelH .non rfl q
 |rt p h1=>
  rw[z]at q;intro F' m' H' x s R' rp;dsimp only[uF]at q
  by_cases lp:SN h.length p=true
  ·rw[if_pos lp]at q;exact fT R s R' rp lp q
  ·rw[if_neg lp]at q
   cases y:eL h1 p with
   |none=>rw[y]at q;exact q.elim
   |some ab=>obtain⟨p2,h2⟩:=ab;rw[y]at q;obtain⟨F2,s2,R2,r2,hp⟩:=gq R' rp y;exact fT R (s.trans s2) R2 r2 (kY hp) q
 |exc e h1=>rw[z]at q;exact fun F' m' H' cls dx s R' rx=>qG R s R' rx q
 |bk _ _=>rw[z]at q;exact q.elim
 |ct _ _=>rw[z]at q;exact q.elim
 |bad=>rw[z]at q;exact q.elim
end
section
variable{X:Cx}{T:Tab}{k:Nat}{f Ca:Addr}{fd:FuncData}{ps:List Str}{m:Str}{pos apos:Pos}{e o:Expr}{es:List Expr}{fs:Ax}{fo:Ex}{fn:List PV→List PO→Res PV}{C:Nat}
theorem xY{pl:Sem Bool}(oc:pH X.K T C Ca)(hm:eF X.K Ca m f)(nm:m∉Sv C)(F:oS X.prog X.w X.K X.mg X.base k f fd ps (Za X.K T ps.length fn))(Ri:∀qs hs,fn qs hs≠.bad→qs.length=ps.length)(hr:fO k X.A)(hb:bC X.K fd ps [])(ho:RE X T (fun _ _ _=>False) o fo)(ha:RA X T (fun _ _ _=>False) (e::es) fs)
  (Rh:sE0 X e es:=by rfl) (J3:sP0 X es pos:=by rfl)
  (ht:eval (.Call (.Attribute o m apos) (e::es) [] pos) X.env=(do
   let ov ← eval o X.env
   standAt apos.atName
   let(f,first) ← holding [ov] (getMethod ov m pl)
   callWith pos f first (backTo pos (starEach (e::es) X.env)) (backToKw pos (keywordEach [] X.env))):=by rfl):
  RE X T (fun _ _ _=>False) (.Call (.Attribute o m apos) (e::es) [] pos) (be C fn fo fs):=by with_unfolding_all
 refine PE.imp (AI (pl:=pl) ho oc.c hm F hr hb ha Rh J3 ht) ?_;rintro σ H Q ⟨F,mm,ρ,h,R,p⟩;refine⟨F,mm,ρ,h,R,(aB.bind p).mono ?_⟩;rintro x H1 ⟨F1,m1,h1,p1,s1,R1,r1,w1⟩
 cases z:jT C h1 p1 with
 |none=>rw[z]at w1;exact w1.elim
 |some ip=>
  obtain⟨i,qs⟩:=ip;rw[z]at w1;dsimp only at w1;obtain⟨a,Cb,dx,vs,rfl,rfl,em,hi,hF,c,eH,d,k,rr⟩:=hZ R1 r1 z;rw[oc.t]at c
  cases c
  refine⟨a,dx,_,rfl,eH,fW nm,F1,m1,ρ,h1,R.of s1 R1,(aB.bind w1).mono ?_⟩;rintro vs2 H2 ⟨F2,m2,h2,q2,s2,R2,r2,w2⟩;rw[List.append_nil];exact lP (Ew:=E0) Ri R2 (.cons (s2.rep r1) r2) w2
end
end L3
namespace L2
open PySem PySem.Spec PyProof.Rows
theorem wl(n:Nat):sliceRange ((n:Int) - 1) (-1) (-1)=(List.range n).map fun k=>n - 1 - k:=by
 unfold sliceRange
 have e:(if(-1:Int)>0 then(if(n:Int) - 1< -1 then(-1 - ((n:Int) - 1)+ -1 - 1) / (-1)else 0)else(if(n:Int) - 1> -1 then((n:Int) - 1 - -1 - -1 - 1) / (- -1)else 0)).toNat=n:=by
  rw[if_neg (by decide)]
  split
  ·rw[show(- -1:Int)=1 by decide,Int.ediv_one];omega
  ·omega
 dsimp only;rw[e];refine List.map_congr_left fun k hk=>?_;have:=List.mem_range.mp hk;omega
theorem yn(its:List Value):slicePick its.toArray none none (some (-1))=its.reverse.toArray:=by
 unfold slicePick;have b:sliceBounds none none (some (-1)) its.toArray.size=((its.length:Int) - 1, -1, -1):=by simp[sliceBounds]
 rw[b];dsimp only;rw[wl,List.filterMap_map]
 congr 1
 have f:∀(l:List Value),(List.range l.length).filterMap ((fun x=>l.toArray[x]?)∘fun k=>l.length - 1 - k)=l.reverse:=fun l=>by
  have g:∀(rs:List Nat),(∀k∈rs,k<l.length)→rs.filterMap ((fun x=>l.toArray[x]?)∘fun k=>l.length - 1 - k)=rs.map fun k=>l.reverse.getD k .none:=fun rs=>by
   induction rs with
   |nil=>intro _;rfl
   |cons k r ih=>
    intro h;have hk:=h k (by simp);rw[List.filterMap_cons,List.map_cons,ih fun j hj=>h j (by simp[hj])]
    have e:((fun x=>l.toArray[x]?)∘fun k=>l.length - 1 - k) k=some (l.reverse.getD k .none):=by simp only[Function.comp,List.getElem?_toArray];rw[List.getD_eq_getElem?_getD,List.getElem?_reverse hk,List.getElem?_eq_getElem (by omega)];rfl
    rw[e]
  rw[g _ fun k hk=>List.mem_range.mp hk];refine List.ext_getElem? fun i=>?_;rw[List.getElem?_map];rcases Nat.lt_or_ge i l.length with h|h
  ·rw[List.getElem?_range h];show some (l.reverse.getD i .none)=_;rw[List.getD_eq_getElem?_getD,List.getElem?_eq_getElem (by rw[List.length_reverse];exact h)];rfl
  ·rw[List.getElem?_eq_none (by rw[List.length_range];exact h),List.getElem?_eq_none (by rw[List.length_reverse];exact h)];rfl
 exact f its
section
variable{X:Cx}{e st:Expr}{te ts:TE}{pos p2:Pos}
def Ke(K:W.Frag)(te ts:TE):TE:=fun σ H Q=>te σ H fun x H1=>ts σ H1 fun y H2=>y=.int (-1)∧∃a xs,x=.ref a∧O4 K H2 a xs∧∀p,H2 p=none→Q (.ref p) (upd H2 p (.lst xs.reverse))
theorem DJ(he:PE X e te)(hs:PE X st ts):PE X (.Subscript e (.Slice none none (some st) p2) pos) (Ke X.K te ts):=by
 intro pins s σ H Q I h;refine Subscript_ (G4 (he pins s σ H _ I h) ?_);rintro v s1 ⟨x,H1,I1,r1,q1⟩;refine wpAny_Slice ?_;rw[evalPart_none];refine wpAny_pure (wpAny_pure ?_);rw[evalPart_some];refine G4 (hs pins s1 σ H1 _ I1 q1) ?_;rintro u s2 ⟨y,H2,I2,r2,e2,a,xs,e3,hx,q⟩;subst e2 e3;obtain⟨t,rfl⟩:=r2
 cases r1
 have I4:Inv X pins σ H2 { s2 with heap:=s2.heap.push { cls:=.type "slice",data:=.fields #[.none,.none,.int (-1) t] } }:=I2.kept (t':=s2.toks) fun b ob q=>Heap.get?_push_of_some _ q;obtain⟨its,r,ht,hz⟩:=I4.list hx;have K3:=r.length;show wpAny (model X.prog X.w) X.A (subscriptTail e (.Slice none none (some st) p2) (.ref a) (.ref s2.heap.objs.size)) (EP X pins σ Q) X.xe { s2 with heap:=s2.heap.push { cls:=.type "slice",data:=.fields #[.none,.none,.int (-1) t] } };refine tail_any (ops:=[.ref a,.ref s2.heap.objs.size]) ht.isList.typeIs slot_list_getitem.lookup ?_ (by with_unfolding_all rfl);refine wpAny_getItem_list_slice ht.isList (Heap.IsSliceOf.new ..) .none .none (.int (-1) t) (by decide) ?_ (by rw[List.size_toArray]<;>omega);rw[yn];refine⟨.ref _,_,I4.laid (t':=s2.toks) (o:=.lst xs.reverse) (fun b ob q=>Heap.get?_push_of_some _ q) (abl _) ?_,rfl,q _ (I4.hok.fresh (abl _))⟩;exact⟨by rw[List.length_reverse];exact hz,_,0,r.reverse,Heap.get?_push_size _ rfl⟩
end
section
variable{prog:Program}{w:World}{A:Around}{E:Value→Shared→Prop}{it l:Addr}{items:Array Value}
theorem zp(ne:l≠it)(xs:List Value):∀(j:Nat)(s:Shared)(Q:List Value→Shared→Prop),(∀i x,xs[i]? =some x→items[j+i]? =some x)→s.heap.IsListIter it l j→s.heap.IsList l items→
  (∀h',h'.IsListIter it l (j+xs.length)→Heap.SameBut it s.heap h'→Q xs { s with heap:=h' })→wpAny (model prog w) A (draw (.ref it) xs.length) Q E s:=by
 induction xs with
 |nil=>exact fun j s Q _ hit _ h=>(show wpAny (model prog w) A (pure []) Q E s from wpAny_pure (h s.heap hit (Heap.SameBut.refl ..)))
 |cons x r ih=>
  intro j s Q hx hit hl h;refine(show wpAny (model prog w) A (pyNext (.ref it) >>= _) Q E s from wpAny_bind (wpAny_pyNext_list_item hit hl (hx 0 x rfl) fun h1 abE b1=>wpAny_bind (wpAny_holding (ih (j+1) _ _ (fun i y e=>?_) abE (hl.extBut b1.extBut ne) fun h2 abD b2=>wpAny_pure ?_))))
  ·have:=hx (i+1) y (by rw[List.getElem?_cons_succ];exact e);rw[show j+1+i=j+(i+1) by omega];exact this
  ·refine h h2 ?_ (b1.trans b2);rw[List.length_cons,show j+(r.length+1)=j+1+r.length by omega];exact abD
theorem sV{s:Shared}{targets:List (Bool×(Value→Sem Unit))}{Q:Unit→Shared→Prop}(hh:A.handled=none)(hl:s.heap.IsList l items)(hn:targets.length=items.size)(Rh:targets.findIdx? (·.1)=none)
  (h:∀h',Heap.ExtBut s.heap.objs.size s.heap h'→wpAny (model prog w) A (assignInOrder (targets.map (·.2)) items.toList) Q E { s with heap:=h' }):wpAny (model prog w) A (unpack (.ref l) targets) Q E s:=by
 have ne:l≠s.heap.objs.size:=by obtain⟨o,ho,_⟩:=hl;exact Nat.ne_of_lt (Heap.lt_size ho)
 unfold unpack;rw[hn,Rh];refine wpAny_bind (wpAny_holding ?_);unfold unpackItems notIterableAtAll;refine wpAny_bind (wpAny_bind (wpAny_specialOf hl.typeIs slot_list_iter.lookup (wpAny_pure ?_)));rw[if_neg (by decide)];refine wpAny_bind (wpAny_holding (wpAny_pyIter_list hl ?_));have e:items.size=items.toList.length:=by simp
 dsimp only;rw[e];refine wpAny_bind (wpAny_holding (zp ne items.toList 0 _ _ (fun i x q=>by rw[Nat.zero_add];simpa using q) ⟨_,Heap.get?_push_size _ rfl,rfl,rfl⟩ (hl.push _) fun h1 hit b1=>?_));rw[if_neg (Nat.lt_irrefl _)];refine wpAny_bind (wpAny_holding (wpAny_pyNext_list_end hh hit ((hl.push _).extBut b1.extBut ne) (by simp) fun h2 b2=>?_));rw[if_neg (by decide)];exact wpAny_pure (h h2 fun b o nb q=>b2 b o nb (b1.extBut b o nb (Heap.get?_push_of_some _ q)))
end
section
variable{X:Cx}{pos:Pos}
noncomputable def NG(K:W.Frag)(n:Nat)(t:W6):TG:=fun v σ H Q=>∃a xs,v=.ref a∧O4 K H a xs∧xs.length=n∧t xs σ H Q
theorem Ht{es:List Expr}{k:Nat}{t:W6}{n:Nat}(hc:X.calm=true)(h:WD X es t)
  (hn:(assignEach es X.env).length=n:=by rfl) (Rh:(assignEach es X.env).findIdx? (·.1)=none:=by rfl):PG X (.Tuple es k pos) (NG X.K n t):=by
 intro pins s σ H v u Q I r hw;obtain⟨a,xs,e1,hq,hl,hw⟩:=hw;subst e1
 cases r
 obtain⟨its,rv,ht,hz⟩:=I.list hq;rw[assign_Tuple];refine wpAny_bind (wpAny_standAt (sV (I.ok.hd hc) ht.isList (by simp[hn,← hl,rv.length]) Rh fun h' hx=>?_));have I1:Inv X pins σ H { s with heap:=h' }:=I.kept (t':=s.toks) fun b o e=>hx b o (Nat.ne_of_lt (Heap.lt_size e)) e;exact h pins _ σ H xs _ Q I1 (by simpa using rv) hw
end
end L2
namespace L3
open PySem PySem.Spec PyProof.Rows L2
def jj(p y:PV)(h:List PO):Res PV:=match y with
 |.int (-1)=>match Vh h p with
  |some xs=>.ok (.lst xs.reverse) h
  |none=>.bad
 |_=>.bad
theorem au.back{K:W.Frag}{T:Tab}{F:Hp}{m:List Addr}{ps:List PV}{vs:List V}(r:au K T F m ps vs):au K T F m ps.reverse vs.reverse:=by
 have go:∀(qs:List PV)(ws:List V),au K T F m qs ws→∀(as:List PV)(bs:List V),au K T F m as bs→au K T F m (qs.reverse++as) (ws.reverse++bs):=by
  intro qs
  induction qs with
  |nil=>intro ws h as bs g;cases h;exact g
  |cons q t ih=>
   intro ws h as bs g
   cases h with
   |cons h1 h2=>rw[List.reverse_cons,List.reverse_cons,List.append_assoc,List.append_assoc];exact ih _ h2 _ _ (.cons h1 g)
 have:=go ps vs r [] [] .nil
 rwa [List.append_nil,List.append_nil]at this
section
variable{X:Cx}{T:Tab}{Ew:XK}{a st:Expr}{es:List Expr}{fa fs:Ex}{gs:WL}{pos p2:Pos}
theorem nq(ha:RE X T Ew a fa)(hs:RE X T Ew st fs):RE X T Ew (.Subscript a (.Slice none none (some st) p2) pos) (c2 jj fa fs):=by with_unfolding_all
 refine PE.imp (DJ ha hs) ?_;rintro σ H Q ⟨F,m,ρ,h,R,p⟩;refine⟨F,m,ρ,h,R,(aB.bind p).mono ?_⟩;rintro x H1 ⟨F1,m1,h1,p1,s1,R1,r1,w1⟩
 refine⟨F1,m1,ρ,h1,R.of s1 R1,(aB.bind w1).mono ?_⟩;rintro y H2 ⟨F2,m2,h2,p2,s2,R2,r2,w2⟩;unfold jj at w2
 split at w2
 ·cases r2
  split at w2
  ·rename_i xs el;obtain⟨a,vs,rfl,ea,ra⟩:=fP R2 (s2.rep r1) el;exact⟨rfl,a,vs,rfl,ea,fB w2 R2 ra.back⟩
  ·exact w2.elim
 ·exact w2.elim
noncomputable def gTl(n:Nat)(gs:WL):Gx:=fun p ρ=>match p with
 |.lst ps=>if ps.length=n then gs ps ρ else none
 |_=>none
theorem zS{n k:Nat}(h:Z7 X T es gs)(hc:X.calm=true:=by rfl)(hn:(assignEach es X.env).length=n:=by rfl)(Rh:(assignEach es X.env).findIdx? (·.1)=none:=by rfl):RG X T (.Tuple es k pos) (gTl n gs):=by with_unfolding_all
 refine PG.imp (Ht hc h hn Rh) ?_;rintro v σ H Q ⟨F,m,ρ,h,p,ρ',R,r,e,q⟩
 cases r with
 |@lst ps a vs sq rr=>
  have e:(if ps.length=n then gs ps ρ else none)=some ρ':=e
  split at e
  ·rename_i hl;have sq:O4 X.K F a vs:=.inl (.inl sq);exact⟨a,vs,rfl,R.same.seq sq,by rw[← rr.length];exact hl,F,m,ρ,h,ps,ρ',R,rr,e,q⟩
  ·cases e
 |_=>cases e
end
end L3
noncomputable section
namespace U3
open PySem PySem.Spec PyProof.Rows L2 L3
noncomputable def top(i:Nat):Stmt:=PySem.Challenge.pw_formsmith_k12_what_names_stand_for.main.body.getD i (.Pass ⟨0,0,0,0⟩)
noncomputable def eP:List (List Nat):=[[97,115],[98,101,116,119,101,101,110],[98,111,100,121],[101,108,115,101],[101,110,100],[102,111,114],[105,102],[105,110],[112,105,101,99,101],[117,115,101],[119,105,116,104]]
noncomputable def cD:List Nat:=[48,49,50,51,52,53,54,55,56,57,65,66,67,68,69,70,71,72,73,74,75,76,77,78,79,80,81,82,83,84,85,86,87,88,89,90,97,98,99,100,101,102,103,104,105,106,107,108,109,110,111,112,113,114,115,116,117,118,119,120,121,122]
noncomputable def aS:List Nat:=[97,98,99,100,101,102,103,104,105,106,107,108,109,110,111,112,113,114,115,116,117,118,119,120,121,122]
noncomputable def fA:List Nat:=[10,32,33,34,35,36,38,39,40,41,42,43,44,45,46,47,48,49,50,51,52,53,54,55,56,57,58,59,60,61,62,63,64,65,66,67,68,69,70,71,72,73,74,75,76,77,78,79,80,81,82,83,84,85,86,87,88,89,90,91,92,93,94,95,96,97,98,99,100,101,102,103,104,105,106,107,108,109,110,111,112,113,114,115,116,117,118,119,120,121,122,123,124,125,126]
set_option genSizeOf false in
inductive Fn where
 |law|J6|K5|Om|O9|G3|written|A_|z_|i_|f9|b_|d7|u9|is_value|j9|d8|n_|o7|w6|m7|d9|h_|v8|u6|J_|o9|q_|j_|g_|OD|v9|p7|j7|m_|j4|j5|o8|t_|z9|K1|j6|found|k_|j8
abbrev CC:=Fn→List PV→Out
abbrev DD:=Fn→List PV→List PO→Res PV
abbrev NN:=Fn→List PV→Res PV
def ke:Fn→Stmt
 |.law=>top 71
 |.J6=>top 67
 |.K5=>top 68
 |.Om=>top 69
 |.O9=>top 70
 |.G3=>top 66
 |.written=>top 62
 |.A_=>top 65
 |.z_=>top 25
 |.i_=>bP (top 63) 0
 |.f9=>bP (top 53) 8
 |.b_=>bP (top 63) 1
 |.d7=>bP (top 53) 9
 |.u9=>top 54
 |.is_value=>top 19
 |.j9=>bP (top 53) 0
 |.d8=>bP (top 63) 2
 |.n_=>top 20
 |.o7=>bP (top 53) 1
 |.w6=>bP (top 53) 5
 |.m7=>top 56
 |.d9=>bP (top 63) 3
 |.h_=>bP (top 53) 7
 |.v8=>top 58
 |.u6=>top 59
 |.J_=>top 11
 |.o9=>top 21
 |.q_=>top 22
 |.j_=>top 23
 |.g_=>bP (top 53) 4
 |.OD=>top 45
 |.v9=>bP (top 40) 0
 |.p7=>bP (top 41) 0
 |.j7=>bP (top 52) 0
 |.m_=>bP (top 39) 0
 |.j4=>bP (top 53) 6
 |.j5=>bP (top 53) 3
 |.o8=>top 57
 |.t_=>top 60
 |.z9=>top 13
 |.K1=>top 12
 |.j6=>bP (top 53) 2
 |.found=>top 24
 |.k_=>bP (top 40) 1
 |.j8=>bP (top 41) 1
noncomputable def kX:Fn→List Str
 |.law=> ["_law_script","_law_spot","_law_names_here","_law_seven","_law_at","_law_fields","_law_many","_law_things","_law_k","_law_tags","_law_truths","_law_records","_law_book_here","_law_values","_law_due_here","_law_turned"]
 |.J6=> ["_law_n","_law_some","_law_size","_law_at","_law_names_here","_law_k","_law_word","_law_told"]
 |.K5=> ["_law_script","_law_spot","_law_names_here","_law_some"]
 |.Om=> ["_law_names_here","_law_seven","_law_fields","_law_way","_law_main","_law_turn","_law_own","_law_param","_law_inner","_law_other","_law_passed","_law_rows","_law_least","_law_tag","_law_flag","_law_lost","_law_second","_law_each","_law_first","_law_on","_law_choice","_law_body","_law_use","_law_last","_law_nodes","_law_book_here"]
 |.O9=> ["_law_things","_law_tags","_law_truths","_law_has_tag","_law_text","_law_k","_law_parts"]
 |.G3=> ["_law_cells","_law_spot","_law_k","_law_base"]
 |.written=> ["book","values","main","writer","refusal"]
 |.A_=> ["_law_script","_law_k"]
 |.z_=> ["names","values","name"]
 |.i_=> ["self","book","piece"]
 |.f9=> ["self"]
 |.b_=> ["self","nodes","scope","node"]
 |.d7=> ["self","word"]
 |.u9=> ["values","references","name"]
 |.is_value=> ["thing"]
 |.j9=> ["self"]
 |.d8=> ["self","node","scope","kind","truth","piece","body"]
 |.n_=> ["thing","depth"]
 |.o7=> ["self","text"]
 |.w6=> ["self","reference","word","value","way"]
 |.m7=> ["path","scope"]
 |.d9=> ["self","node","scope","things","number","thing"]
 |.h_=> ["self","reference","truth"]
 |.v8=> ["use","piece","scope","body"]
 |.u6=> ["paths","scope","body","user"]
 |.J_=> ["thing","most"]
 |.o9=> ["number"]
 |.q_=> ["record","depth","field"]
 |.j_=> ["things","depth","thing"]
 |.g_=> ["self","reference","things"]
 |.OD=> ["word"]
 |.v9=> ["self","value"]
 |.p7=> ["self","value"]
 |.j7=> ["self","word"]
 |.m_=> ["self","value"]
 |.j4=> ["self","reference","things"]
 |.j5=> ["self","number","between"]
 |.o8=> ["name","meaning","scope","meanings"]
 |.t_=> ["meanings","names","paths","scope","name","path"]
 |.z9=> ["text","allowed","sign"]
 |.K1=> ["thing"]
 |.j6=> ["self"]
 |.found=> ["value","fields","here","field"]
 |.k_=> ["self","value"]
 |.j8=> ["self","value"]
def iI:Fn→Str
 |.law=>"law"
 |.J6=>"_law_names"
 |.K5=>"_law_drawn"
 |.Om=>"_law_book"
 |.O9=>"_law_due"
 |.G3=>"_law_cell"
 |.written=>"written"
 |.A_=>"_law_cell_at"
 |.z_=>"need_values"
 |.i_=>"__init__"
 |.f9=>"outcome_written"
 |.b_=>"write_nodes"
 |.d7=>"outcome_refused"
 |.u9=>"references_to"
 |.is_value=>"is_value"
 |.j9=>"__init__"
 |.d8=>"write_node"
 |.n_=>"is_value_within"
 |.o7=>"write"
 |.w6=>"put"
 |.m7=>"stood_for"
 |.d9=>"write_rounds"
 |.h_=>"truth_wanted"
 |.v8=>"scope_in_use"
 |.u6=>"scope_in_body"
 |.J_=>"is_text"
 |.o9=>"is_short_number"
 |.q_=>"is_record_within"
 |.j_=>"are_values_within"
 |.g_=>"thing_wanted"
 |.OD=>"way_of"
 |.v9=>"fits"
 |.p7=>"fits"
 |.j7=>"__init__"
 |.m_=>"coded"
 |.j4=>"list_wanted"
 |.j5=>"begin_round"
 |.o8=>"scope_in_loop"
 |.t_=>"with_handed_in"
 |.z9=>"is_made_of"
 |.K1=>"is_name"
 |.j6=>"count_one"
 |.found=>"found"
 |.k_=>"spelling"
 |.j8=>"spelling"
def rN:Fn→Str
 |.i_=>"Writer.__init__"
 |.f9=>"Pen.outcome_written"
 |.b_=>"Writer.write_nodes"
 |.d7=>"Pen.outcome_refused"
 |.j9=>"Pen.__init__"
 |.d8=>"Writer.write_node"
 |.o7=>"Pen.write"
 |.w6=>"Pen.put"
 |.d9=>"Writer.write_rounds"
 |.h_=>"Pen.truth_wanted"
 |.g_=>"Pen.thing_wanted"
 |.v9=>"Word.fits"
 |.p7=>"Number.fits"
 |.j7=>"Refused.__init__"
 |.m_=>"Way.coded"
 |.j4=>"Pen.list_wanted"
 |.j5=>"Pen.begin_round"
 |.j6=>"Pen.count_one"
 |.k_=>"Word.spelling"
 |.j8=>"Number.spelling"
 |f=>iI f
def pj:Fn→Bool
 |.i_|.f9|.b_|.d7|.j9|.d8|.o7|.w6|.d9|.h_|.g_|.v9|.p7|.j7|.m_|.j4|.j5|.j6|.k_|.j8=>false
 |_=>true
set_option genSizeOf false in
inductive Nt where
 |abs|bool|dict|enumerate|int|isinstance|len|list|range|set|str|tuple|zip
def DZ:Nt→Str
 |.abs=>"abs"
 |.bool=>"bool"
 |.dict=>"dict"
 |.enumerate=>"enumerate"
 |.int=>"int"
 |.isinstance=>"isinstance"
 |.len=>"len"
 |.list=>"list"
 |.range=>"range"
 |.set=>"set"
 |.str=>"str"
 |.tuple=>"tuple"
 |.zip=>"zip"
def eD:Fn→List Str
 |.law=> ["_law_script"]
 |.J6=> ["_law_n"]
 |.K5=> ["_law_script","_law_spot","_law_names_here"]
 |.Om=> ["_law_names_here","_law_seven","_law_fields","_law_way"]
 |.O9=> ["_law_things","_law_tags","_law_truths","_law_has_tag"]
 |.G3=> ["_law_cells","_law_spot"]
 |.written=> ["book","values"]
 |.A_=> ["_law_script","_law_k"]
 |.z_=> ["names","values"]
 |.i_=> ["self","book"]
 |.f9=> ["self"]
 |.b_=> ["self","nodes","scope"]
 |.d7=> ["self","word"]
 |.u9=> ["values"]
 |.is_value=> ["thing"]
 |.j9=> ["self"]
 |.d8=> ["self","node","scope"]
 |.n_=> ["thing","depth"]
 |.o7=> ["self","text"]
 |.w6=> ["self","reference","word"]
 |.m7=> ["path","scope"]
 |.d9=> ["self","node","scope"]
 |.h_=> ["self","reference"]
 |.v8=> ["use","piece","scope"]
 |.u6=> ["paths","scope"]
 |.J_=> ["thing","most"]
 |.o9=> ["number"]
 |.q_=> ["record","depth"]
 |.j_=> ["things","depth"]
 |.g_=> ["self","reference"]
 |.OD=> ["word"]
 |.v9=> ["self","value"]
 |.p7=> ["self","value"]
 |.j7=> ["self","word"]
 |.m_=> ["self","value"]
 |.j4=> ["self","reference"]
 |.j5=> ["self","number","between"]
 |.o8=> ["name","meaning","scope"]
 |.t_=> ["meanings","names","paths","scope"]
 |.z9=> ["text","allowed"]
 |.K1=> ["thing"]
 |.j6=> ["self"]
 |.found=> ["value","fields"]
 |.k_=> ["self","value"]
 |.j8=> ["self","value"]
abbrev aac:=cK (.int 1)
abbrev aad:=cK (.int 0)
abbrev aae:=ac (ae 2) ak
abbrev aaf:=ac (ae 1) ak
abbrev aaG:=ac (ae 0) ak
abbrev aag:=cN gk aaG
abbrev aah:=cK (.int 3)
abbrev aai:=cK (.int 2)
abbrev aaj:=cK (.str [116,101,120,116])
abbrev aak:=bA (cK (.bl false))
abbrev aal:=cK (.str [112,105,101,99,101])
abbrev aam:=cK (.str [112,108,97,99,101])
abbrev aan:=cK (.int 8)
abbrev aao:=c2 B_ (ae 1) aac
abbrev aap:=cK (.str [117,115,101])
abbrev aaq:=cK (.str [119,111,114,100])
abbrev aar:=c1 (hU 601 0) (ae 0)
abbrev aas:=cK (.str [])
abbrev aat:=ac (ae 6) ak
abbrev aau:=cK (.int 5)
abbrev aav:=cK (.int 4)
abbrev aaw:=ac (ae 1) aae
abbrev aax:=c2 B_ (ae 1) aad
abbrev aay:=ac (ae 3) ak
abbrev aaA:=cK (.str [108,111,111,112])
abbrev aaB:=cK (.str [98,111,100,121])
abbrev aaC:=ac (ae 0) aaf
abbrev abh:=c1 (hU 600 0) (ae 0)
abbrev aaD:=ac (cM lj gK aas (ac abh ak)) ak
abbrev aaE:=ac (c2 Ti (c2 B_ (ae 3) aai) (c2 B_ (ae 3) aac)) ak
abbrev aaF:=c2 B_ (ae 1) aai
abbrev aaH:=cK (.int 7)
abbrev aaI:=cK .non
abbrev aaJ:=cK (.str [119,114,105,116,116,101,110])
abbrev aaK:=cK (.str [114,101,102,117,115,101,100])
abbrev aaL:=ac (ae 13) ak
abbrev aaM:=c1 oZ aac
abbrev aaN:=bA (cK (.bl true))
abbrev aaO:=cK (.str [110,117,109,98,101,114])
abbrev aaP:=cK (.str [99,104,111,105,99,101])
abbrev aaQ:=c2 gA (ae 5) aan
abbrev aaR:=c2 B_ (ae 3) aad
abbrev aaS:=c2 B_ (ae 2) aad
abbrev aaT:=c2 B_ (ae 2) aac
abbrev aaV:=c2 B_ (ae 0) aav
abbrev aaW:=c2 B_ (ae 0) aah
abbrev aaX:=cK (.str [102,105,101,108,100])
abbrev aaY:=ZX 2 (ck (PL 4) (ck (PL 5) mD))
abbrev aaZ:=cK (.str [121])
abbrev aa3:=ac aad ak
abbrev aa4:=cN ji ak
abbrev aa5:=bI (c2 fJ (ae 2) (ae 1))
abbrev aa7:=ac (c2 tY (ae 1) aac) ak
abbrev aa9:=cN aV (ac (ae 10) ak)
abbrev aa_:=cN aV (ac (ae 9) ak)
abbrev abb:=cN aV (ac (ae 7) ak)
abbrev abd:=cN aV (ac (ae 5) ak)
abbrev abe:=c1 (hU 601 1) (ae 0)
abbrev abf:=c1 (hU 601 0) (ae 3)
abbrev abg:=c1 (hU 600 1) (ae 0)
abbrev abj:=ac aao aae
def lA(C:CC):Nat→Option (List PV→Out)
 |0=>some (C .m_)
 |1=>some (C .m_)
 |_=>none
def jy(C:CC):Nat→Option (List PV→Out)
 |0=>some (C .v9)
 |1=>some (C .p7)
 |_=>none
def gr(C:CC):Nat→Option (List PV→Out)
 |0=>some (C .k_)
 |1=>some (C .j8)
 |_=>none
def gL:Nat→Bool
 |500=>true
 |_=>false
def nB:Nat→Bool
 |500=>true
 |_=>false
def dl:Nat→Nat
 |0=>0
 |k+1=>dl k+2
def cP(C:CC):Sx:=(pW abe aaT (ae 2))
def cq(C:CC)(Z:DD):Sx:=
 (aI (nT 601 0 (ae 0) (wt 600 (Z .j9) ak))
  (aI (nT 601 1 (ae 0) qN)
  (jc (mo (ae 1)) (PL 2) (cP C))))
def bz(C:CC):Sx:=
 (bA (cN aV (ac aaJ aaD)))
def bE(C:CC)(Z:DD):Sx:=(cQ (be 601 (Z .d8) (ae 0) (ac (ae 3) aae)))
def bH(C:CC)(Z:DD):Sx:=
 (jc (mo (ae 1)) (PL 3) (bE C Z))
def aX(C:CC):Sx:=
 (bA (cN aV (ac aaK (ac (ae 1) aaD))))
def fZ(C:CC):Sx:=
 (aI (nT 600 0 (ae 0) aa4)
  (nT 600 1 (ae 0) aad))
def ay(C:CC)(Z:DD):Sx:=
 (aI (ba 3 aax)
  (Qc (bI (c2 Pb (ae 3) aaj)) (cQ (be 600 (Z .o7) aar (ac aao ak))) (Qc (bI (c2 Pb (ae 3) aam)) (cQ (be 600 (Z .w6) aar (ac (bu (C .m7) abj) (ac aaF ak)))) (Qc (bI (c2 Pb (ae 3) aaA)) (cQ (be 601 (Z .d9) (ae 0) aaw)) (Qc (bI (c2 Pb (ae 3) aaP)) (aI (ba 4 (be 600 (Z .h_) aar (ac (bu (C .m7) abj) ak)))
  (cQ (be 601 (Z .b_) (ae 0) (ac (Fr (eG (ae 4)) aaF (c2 B_ (ae 1) aah)) aae)))) (Qc (bI (c2 Pb (ae 3) aap)) (aI (ba 5 (c2 B_ abe aao))
  (cQ (be 601 (Z .b_) (ae 0) (ac (c2 B_ (ae 5) aav) (ac (bu (C .v8) (ac (ae 1) (ac (ae 5) aae))) ak))))) (aI (ba 6 aaT)
  (cQ (be 601 (Z .b_) (ae 0) (ac (c2 B_ (ae 6) aac) (ac (bu (C .u6) abj) ak)))))))))))
def fm(C:CC):Sx:=
 (cQ (cM iT cT abh aaf))
def dm(C:CC)(Z:DD)(z:Bool):Sx:=
 (aI (ba 3 (be 600 (Z .g_) (ae 0) aaf))
  (aI (ba 4 (bu (C .OD) aae))
  (aI (Qc (gb (eG (qO (jy C) (ae 4) aay))) (gH z 500 (ac (cK (.str [118,97,108,117,101])) ak)) cU)
  (aI (cQ (be 600 (Z .o7) (ae 0) (ac (qO (lA C) (ae 4) aay) ak)))
  (bA (ae 3))))))
def bw(C:CC)(Z:DD):Sx:=(aI (cQ (be 600 (Z .j5) aar (ac (ae 4) (ac (c2 B_ (ae 1) aav) ak))))
  (cQ (be 601 (Z .b_) (ae 0) (ac (c2 B_ (ae 1) aah) (ac (bu (C .o8) (ac aao (ac abd aae))) ak)))))
def bx(C:CC)(Z:DD):Sx:=
 (aI (ba 3 (be 600 (Z .j4) aar (ac (bu (C .m7) (ac aaF aae)) ak)))
  (jc (uS aay) aaY (bw C Z)))
def bY(C:CC)(Z:DD)(z:Bool):Sx:=
 (aI (ba 2 (be 600 (Z .g_) (ae 0) aaf))
  (aI (Qc (gb (eG (cN aR (ac (ae 2) (ac (cK (.ty "bool")) ak))))) (gH z 500 (ac (cK (.str [116,114,117,116,104])) ak)) cU)
  (bA (ae 2))))
def aZ(C:CC)(Z:DD)(z:Bool):Sx:=
 (aI (cQ (be 600 (Z .j6) (ae 0) ak))
  (aI (ba 2 (bu (C .found) (ac aax (ac (pE (ae 1) (jY aac) jZ) ak))))
  (aI (Qc (gb (eG (ae 2))) (gH z 500 (ac aaX ak)) cU)
  (bA aaS))))
def cr(C:CC)(Z:DD)(z:Bool):Sx:=
 (aI (ba 2 (be 600 (Z .g_) (ae 0) aaf))
  (aI (Qc (gb (eG (cN aR (ac (ae 2) (ac (cK (.ty "list")) ak))))) (gH z 500 (ac (cK (.str [108,105,115,116])) ak)) cU)
  (bA (ae 2))))
def bL(C:CC)(Z:DD):Sx:=
 (aI (cQ (be 600 (Z .j6) (ae 0) ak))
  (Qc (bI (c2 VH (ae 1) aad)) (cQ (be 600 (Z .o7) (ae 0) aae)) cU))
def cV(C:CC):Sx:=(pW (ae 0) (ae 4) (bu (C .m7) (ac (ae 5) aay)))
def cB(C:CC):Sx:=
 (aI (jc (Fx aaw) aaY (cV C))
  (bA (ae 0)))
def cF(C:CC)(z:Bool):Sx:=
 (aI (nT 600 1 (ae 0) (c2 bo abg aac))
  (Qc (bI (c2 VH abg (cK (.int 2000)))) (gH z 500 (ac (cK (.str [108,111,110,103])) ak)) cU))
def sk(C:CC):Ex:=(c2 B_ (ae 1) (c2 bo (ae 2) (ae 0)))
def sj(C:CC)(D:DD):Ex:=(c2 tY (c2 gA (fK (D .G3) aaw) (cK (.int 2001))) (cK (.int 1000)))
def mU(C:CC)(D:DD):Sx:=(cQ (cM iT cT (ae 7) (ac (cN Wg (fN [0,1] (dP (ac (c2 gA (c2 kW (fK (D .G3) aaC) aah) aav) ak)) ft (sj C D))) ak)))
def nF(C:CC)(D:DD):Ex:=(c2 bo (cK (.str [116])) (cN yt (ac (c2 gA (fK (D .G3) aaw) (cK (.int 1000))) ak)))
def nE(C:CC)(D:DD):Ex:=(c2 VH (c2 gA (c2 kW (fK (D .G3) aaw) aaH) aau) aad)
def mS(C:CC):Sx:=(cQ (cM iT cT (ae 11) (ac (gM [((c2 B_ (ae 5) aac),(cN tZ (ac (c2 B_ (ae 7) (ae 8)) ak))),((c2 B_ (ae 5) aai),(c2 B_ (ae 9) (ae 8))),((c2 B_ (ae 5) aah),(c2 B_ (ae 10) (ae 8)))]) ak)))
def qT(C:CC)(D:DD):Sx:=
 (aI (ba 1 (cN ji (ac aad aa3)))
  (aI (ba 2 (bu (C .J6) (ac (fK (D .G3) aaC) ak)))
  (aI (ba 3 (fK (D .K5) (ac (ae 0) aaw)))
  (aI (ba 4 (c2 B_ (cN ph (ac aaH aa3)) (c2 gA (c2 kW (bu (C .A_) (ac (ae 0) aa3)) aai) aai)))
  (aI (ba 5 (cN Wg (fN [2,4] (dP (ac aau ak)) ft (sk C))))
  (aI (ba 6 (c2 gA (c2 kW (fK (D .G3) aaC) aah) aau))
  (aI (ba 7 aa4)
  (aI (jc (dP aat) (PL 8) (mU C D))
  (aI (ba 9 (cN Wg (fN [0,1] (dP aat) ft (nF C D))))
  (aI (ba 10 (cN Wg (fN [0,1] (dP aat) ft (nE C D))))
  (aI (ba 11 aa4)
  (aI (jc (dP aat) (PL 8) (mS C))
  (aI (ba 12 (bu (C .Om) (ac (ae 2) (ac (ae 3) (ac (ae 5) (ac (c2 gA (bu (C .A_) (ac (ae 0) (ac aac ak))) aai) ak))))))
  (aI (ba 13 (gM [(aaR,(gM [((c2 B_ (ae 5) aad),(XF (ae 11)))]))]))
  (aI (ba 14 (bu (C .O9) (ac (ae 7) (ac (ae 9) (ac (ae 10) aaE)))))
  (aI (Qc (bI (c2 Ti (bu (C .written) (ac (ae 12) aaL)) (ae 14))) aak cU)
  (aI (ba 15 (gM [(aaR,(gM [((c2 B_ (ae 5) aad),(c2 jj (ae 11) aaM))]))]))
  (aI (Qc (bI (c2 Ti (bu (C .written) (ac (ae 12) (ac (ae 15) ak))) (bu (C .O9) (ac (c2 jj (ae 7) aaM) (ac (c2 jj (ae 9) aaM) (ac (c2 jj (ae 10) aaM) aaE)))))) aak cU)
  (bA (c2 Pb (bu (C .written) (ac (ae 12) aaL)) (ae 14)))))))))))))))))))))
def jw(C:CC):Ex:=(c2 B_ (ae 1) (c2 gA (c2 bo (c2 bo (c2 kW (ae 2) (cK (.int 192))) (c2 iH aau (ae 0))) (c2 iH (c2 iH aah (c2 kW (ae 3) aan)) (cN yu (ac (c2 Pb (c2 gA (ae 2) aah) aad) ak)))) (cK (.int 26))))
def cW(C:CC):Sx:=(aI (ba 6 (cN Ed (fN [1,0,5] (dP (ac aan ak)) ft (jw C))))
  (Qc (bI (c2 Pb (c2 gA (ae 0) aah) aad)) (cQ (cM iT cT (ae 4) (ac (cM lj gK aas (ac (pE (ae 6) jZ (jY (c2 bo aac aaQ))) ak)) ak))) (Qc (bI (c2 Pb (c2 gA (ae 0) aah) aac)) (aI (rn (ae 6) (ae 3) (c2 B_ (ae 1) (c2 gA (c2 bo (c2 bo (c2 kW (ae 0) (cK (.int 192))) (c2 iH aaH (ae 5))) aac) (cK (.int 26)))))
  (cQ (cM iT cT (ae 4) (ac (cM lj gK aas (ac (pE (ae 6) jZ (jY (ae 2))) ak)) ak)))) (cQ (cM iT cT (ae 4) (ac (pE (cM lj gK aas (ac (c2 bo (pE (ae 6) (jY aaQ) jZ) (pE (ae 6) jZ (jY aaQ))) ak)) jZ (jY (c2 tY aan (c2 kW (ae 5) aan)))) ak))))))
def jb(C:CC):Tx:=(bI (c2 Zj (ae 0) (ae 1)))
def jv(C:CC):Ex:=(ae 0)
def eX(C:CC):Sx:=
 (aI (ba 1 (cK (.str aS)))
  (aI (ba 2 (c2 bo aac (c2 gA (c2 kW (ae 0) aah) aan)))
  (aI (ba 3 (c2 gA (c2 kW (ae 0) (cK (.int 24))) (ae 2)))
  (aI (ba 4 aa4)
  (aI (jc (dP (ac (cK (.int 12)) ak)) (PL 5) (cW C))
  (aI (ba 7 (cN ph (ac (cK (.str [97,115])) (ac (cK (.str [98,101,116,119,101,101,110])) (ac aaB (ac (cK (.str [101,108,115,101])) (ac (cK (.str [101,110,100])) (ac (cK (.str [102,111,114])) (ac (cK (.str [105,102])) (ac (cK (.str [105,110])) (ac aal (ac aap (ac (cK (.str [119,105,116,104])) ak)))))))))))))
  (aI (Qc (zE (bI (c2 pLt (c1 dH (ae 4)) (cK (.int 12)))) (bI (c2 Ti (cN Wg (fN [7] (mo (ae 4)) (jb C) (jv C))) (cN ph ak)))) (bA (cN ph (ac (cK (.str [97])) (ac (cK (.str [98])) (ac (cK (.str [97,98])) (ac (cK (.str [98,97])) (ac (cK (.str [105,116,101,109])) (ac (cK (.str [105,116,101,109,115])) (ac (cK (.str [99])) (ac (cK (.str [120])) (ac (cK (.str [120,121])) (ac aaZ (ac (cK (.str [114,111,119])) (ac (cK (.str [114,111,119,115])) ak)))))))))))))) cU)
  (bA (ae 4)))))))))
def jx(C:CC)(D:DD):Ex:=(c2 B_ (ae 1) (c2 gA (c2 kW (fK (D .G3) (ac (ae 2) aay)) aau) (cN gk aaf)))
def ia(C:CC)(D:DD):Sx:=
 (aI (ba 3 (pE (ae 2) jZ (jY (c2 B_ (cN ph (ac aah (ac aan ak))) (c2 gA (bu (C .A_) (ac (ae 0) aa3)) aai)))))
  (bA (cN Wg (fN [3,0,1] (dP (ac aaH ak)) ft (jx C D)))))
def ik(C:CC):Tx:=(bI (c2 Ti (ae 0) (ae 1)))
def iM(C:CC):Ex:=(ae 0)
def ib(C:CC):Sx:=
 (aI (CU (gTl 7 (ck (PL 4) (ck (PL 5) (ck (PL 6) (ck (PL 7) (ck (PL 8) (ck (PL 9) (ck (PL 10) mD)))))))) (ae 1))
  (aI (CU (gTl 5 (ck (PL 11) (ck (PL 12) (ck (PL 13) (ck (PL 14) (ck (PL 15) mD)))))) (ae 2))
  (aI (ba 16 (c2 B_ (cN Wg (fN [7] (mo (ae 0)) (ik C) (iM C))) aad))
  (aI (ba 17 (cN aV (ac aaA (ac (ae 8) (ac (cN aV (ac (ae 7) (ac (ae 12) ak))) (ac (cN aV (ac (cN aV (ac aaB (ac (cN aV (ac (cN aV (ac (ae 8) ak)) ak)) ak))) ak)) (ac (cK (.str [44])) ak)))))))
  (aI (ba 18 (cN aV (ac aal (ac aaW (ac abb (ac aac (ac (cN aV (ac (cN aV (ac aaj (ac (cK (.str [40])) ak))) (ac (ae 17) (ac (cN aV (ac aaj (ac (cK (.str [41])) ak))) (ac (cN aV (ac aam (ac (cN aV (ac (ae 7) aaL)) (ac aaq ak)))) ak))))) ak)))))))
  (aI (ba 19 (cN aV (ac aap (ac aaW (ac (cN aV (ac aa_ ak)) (ac aa9 (ac (cN aV (ac (cN aV (ac aaB (ac (cN aV (ac aa9 ak)) ak))) ak)) ak)))))))
  (aI (ba 20 (cN aV (ac aaP (ac abb (ac (cN aV (ac (cN aV (ac aaj (ac aaZ ak))) ak)) (ac (cN aV (ac (cN aV (ac aaj (ac (cK (.str [110])) ak))) (ac (cN aV (ac aam (ac (cN aV (ac (ae 16) ak)) (ac aaq ak)))) ak))) ak))))))
  (aI (ba 21 (cN aV (ac (cN aV (ac aam (ac (cN aV aat) (ac aaO ak)))) ak)))
  (aI (Qc (bI (c2 Ti (ae 6) (ae 5))) (ba 21 (c2 bo (ae 21) (cN aV (ac (cN aV (ac aaj (ac (cK (.str [58])) ak))) (ac (cN aV (ac aam (ac (cN aV (ac (ae 5) aaL)) (ac aaq ak)))) ak))))) cU)
  (aI (ba 22 (cN aV (ac aap (ac (c2 B_ (ae 0) (c2 bo aah (ae 3))) (ac (cN aV (ac abd ak)) (ac (cN aV aat) (ac (ae 21) ak)))))))
  (aI (ba 23 (cN aV (ac aap (ac (c2 B_ (ae 0) aau) (ac (cN aV (ac (cN aV (ac (ae 5) (ac (ae 14) ak))) (ac (cN aV (ac (ae 5) (ac (ae 15) ak))) ak))) (ac aaI (ac aaI ak)))))))
  (aI (ba 24 (cN aV (ac (cN aV (ac aaA (ac (ae 5) (ac (cN aV (ac (ae 4) (ac (ae 11) ak))) (ac (cN aV (ac (ae 22) (ac (ae 23) ak))) (ac (cK (.str [59])) ak)))))) ak)))
  (aI (ba 25 (cN ph (ac (ae 18) (ac (cN aV (ac aal (ac aaV (ac aa_ (ac aac (ac (cN aV (ac (ae 19) ak)) ak)))))) (ac (cN aV (ac aal (ac (c2 B_ (ae 0) aau) (ac (cN aV (ac (ae 7) (ac (ae 16) ak))) (ac aaI (ac (cN aV (ac (ae 20) ak)) ak)))))) ak)))))
  (bA (cN rS (ac (c2 bo (ae 25) (cN ph (ac (cN aV (ac aal (ac (c2 B_ (ae 0) (cK (.int 6))) (ac (cN aV (ac (ae 4) ak)) (ac aaI (ac (ae 24) ak)))))) ak))) ak))))))))))))))))
def jM(C:CC):Ex:=(c2 bo (cN yt aaG) (c2 iH (c2 bo (cK (.str [58])) (c2 B_ (ae 2) (ae 3))) (cN yu aaf)))
def gR(C:CC):Sx:=(aI (ba 6 (cN Wg (fN [3,1,5] (mo (c2 B_ (ae 0) (ae 5))) ft (jM C))))
  (aI (ba 4 (c2 bo (c2 bo (c2 bo (c2 bo (c2 bo (ae 4) (c2 iH (cK (.str [59])) (cN yu (ac (c2 VH (ae 5) aad) ak)))) (cK (.str [40]))) (cM lj gK (cK (.str [44])) aat)) (cK (.str [41]))) (c2 B_ (ae 1) (ae 5))))
  (aI (Qc (gb (eG (c2 B_ (ae 2) (ae 5)))) (bA (cN aV (ac aaK (ac aaX (ac (c2 bo (ae 4) (cK (.str [110]))) ak))))) cU)
  (ba 4 (c2 bo (ae 4) aaZ)))))
def jP(C:CC):Sx:=
 (aI (ba 4 aas)
  (aI (jc (dP (ac aag ak)) (PL 5) (gR C))
  (bA (cN aV (ac aaJ (ac (ae 4) ak))))))
def gx(C:CC):Sx:=
 (aI (rn (ae 1) aad (c2 bo aax aac))
  (aI (ba 2 aax)
  (aI (ba 3 (c2 bo (c2 iH (c2 iH (cK (.int 31)) (ae 2)) (ae 2)) (c2 iH (cK (.int 7919)) (ae 2))))
  (aI (Qc (bI (c2 VH aag aad)) (ba 3 (c2 bo (ae 3) (c2 iH (c2 B_ (ae 0) (c2 gA (ae 2) aag)) (c2 bo aac (c2 kW (ae 2) aag))))) cU)
  (bA (c2 kW (c2 gA (c2 iH (ae 3) (cK (.int 48271))) (cK (.int 2147483647))) aaH))))))
def fU(C:CC)(Z:DD):Sx:=
 (aI (ba 2 (c2 B_ (ae 0) aaM))
  (aI (cQ (bu (C .z_) (ac (c2 B_ (ae 2) aai) aaf)))
  (aI (ba 3 (wt 601 (Z .i_) aaG))
  (aI (wV gL (cQ (be 601 (Z .b_) (ae 3) (ac (c2 B_ (ae 2) aav) (ac (cN aV (ac (bu (C .u9) aaf) (ac aaI ak))) ak)))) 4 (bA (be 600 (Z .d7) abf (ac (c1 (pAt nB) (ae 4)) ak))))
  (bA (be 600 (Z .f9) abf ak))))))
def eC(C:CC):Sx:=
 (aI (Qc (bI (c2 pLt (ae 1) aag)) (bA (c2 B_ (ae 0) (ae 1))) cU)
  (bA aad))
def iR(C:CC):Sx:=(Qc aa5 gc cU)
def iQ(C:CC):Sx:=(aI (Qc (bI (c2 fJ (ae 2) (ae 0))) gc cU)
  (Qc (gb (eG (bu (C .is_value) (ac (c2 B_ (ae 1) (ae 2)) ak)))) gc cU))
def dL(C:CC):Sx:=
 (aI (Qc (gb (eG (cN aR (ac (ae 1) (ac (cK (.ty "dict")) ak))))) gc cU)
  (aI (jc (lF (ae 0)) (PL 2) (iR C))
  (jc (lF (ae 1)) (PL 2) (iQ C))))
def gF(C:CC):Sx:=(pW (ae 1) (ae 2) (cN aV (ac (c2 B_ (ae 0) (ae 2)) ak)))
def cI(C:CC):Sx:=
 (aI (ba 1 qN)
  (aI (jc (lF (ae 0)) (PL 2) (gF C))
  (bA (XF (ae 1)))))
def gy(C:CC):Sx:=
 (bA (bu (C .n_) (ac (ae 0) (ac (cK (.int 6)) ak))))
def aK(C:CC):Sx:=
 (aI (Qc (bI (c2 pLt (ae 1) aac)) aak cU)
  (aI (Qc (eG (cN aR (ac (ae 0) (ac (cK (.ty "bool")) ak)))) aaN cU)
  (aI (Qc (eG (cN aR (ac (ae 0) (ac (cK (.ty "int")) ak)))) (bA (bu (C .o9) aaG)) cU)
  (aI (Qc (eG (cN aR (ac (ae 0) (ac (cK (.ty "list")) ak)))) (bA (pG (c2 pLe aag (cK (.int 40))) (bu (C .j_) (ac (ae 0) aa7)))) cU)
  (aI (Qc (eG (cN aR (ac (ae 0) (ac (cK (.ty "dict")) ak)))) (bA (bu (C .q_) aaC)) cU)
  (bA (bu (C .J_) (ac (ae 0) (ac (cK (.int 400)) ak)))))))))
def fE(C:CC):Sx:=
 (bA (c2 bo (c2 B_ aax (c2 B_ (ae 0) aad)) (pE (ae 0) (jY aac) jZ)))
def bZ(C:CC)(Z:DD):Sx:=
 (aI (ba 3 (Fr (bI (c2 pIs aaV aaI)) aaI (cN aV (ac aaW (ac aaV aae)))))
  (bA (cN aV (ac (XF (oO (Z .t_) (ac qN (ac aaF (ac (c2 B_ (ae 0) aai) aae))))) aay))))
def cH(C:CC)(Z:DD):Sx:=
 (aI (ba 2 aao)
  (aI (ba 3 (c2 B_ (ae 2) aai))
  (bA (cN aV (ac (XF (oO (Z .t_) (ac (cN lW (ac aaR ak)) (ac aaS aaC)))) (ac (c2 B_ (ae 3) aac) ak))))))
def fV(C:CC):Sx:=
 (bA (pG (cN aR (ac (ae 0) (ac (cK (.ty "str")) ak))) (pG (c2 pLe aag (ae 1)) (bu (C .z9) (ac (ae 0) (ac (cK (.str fA)) ak))))))
def bp(C:CC):Sx:=
 (bA (c2 pLt (cN DN aaG) (c2 KR (cK (.int 10)) (cK (.int 30)))))
def cX(C:CC):Sx:=(Qc (gb (eG (bu (C .K1) aae))) aak cU)
def ce(C:CC):Sx:=
 (aI (Qc (bI (c2 VH aag aan)) aak cU)
  (aI (jc (lF (ae 0)) (PL 2) (cX C))
  (bA (bu (C .j_) (ac (BU (ae 0)) aa7)))))
def cO(C:CC):Sx:=(Qc (gb (eG (bu (C .n_) (ac (ae 2) aaf)))) aak cU)
def bS(C:CC):Sx:=
 (aI (jc (mo (ae 0)) (PL 2) (cO C))
  aaN)
def gw(C:CC):Sx:=
 (aI (Qc (bI (c2 oq (ae 0) aaq)) (bA (uR 0)) cU)
  (aI (Qc (bI (c2 oq (ae 0) aaO)) (bA (uR 1)) cU)
  (aI (Qc (bI (c2 oq (ae 0) (cK (.str [113,117,111,116,101,100])))) gc cU)
  (aI (Qc (bI (c2 oq (ae 0) (cK (.str [112,108,97,105,110])))) gc cU)
  (aI (Qc (bI (c2 oq (ae 0) (cK (.str [108,105,110,101])))) gc cU)
  gc)))))
def fG(C:CC):Sx:=
 (bA (pG (bu (C .J_) (ac (ae 1) (ac (cK (.int 40)) ak))) (pG (c2 Ti (ae 1) aas) (bu (C .z9) (ac (ae 1) (ac (cK (.str cD)) ak))))))
def dM(C:CC):Sx:=
 (bA (pG (cN aR (ac (ae 1) (ac (cK (.ty "int")) ak))) (pG (Jx (cN aR (ac (ae 1) (ac (cK (.ty "bool")) ak)))) (bu (C .o9) aaf))))
def dh(C:CC):Sx:=
 (aI (Qc (gb (eG (qO (jy C) (ae 0) aaf))) gc cU)
  (bA (qO (gr C) (ae 0) aaf)))
def cG(C:CC):Sx:=
 (aI (ba 3 (cN lW (ac aaS ak)))
  (aI (pW (ae 3) (ae 0) (ae 1))
  (bA (cN aV (ac (XF (ae 3)) (ac aaT ak))))))
def cY(C:CC):Sx:=(Qc aa5 aak cU)
def dr(C:CC):Sx:=
 (aI (jc (mo (ae 0)) (PL 2) (cY C))
  aaN)
def ie(C:CC):Sx:=
 (aI (Qc (zE (gb (eG (cN aR (ac (ae 0) (ac (cK (.ty "str")) ak))))) (gb (bI (sH pLe pLe aac aag aan)))) aak cU)
  (bA (pG (bu (C .z9) (ac (ae 0) (ac (cK (.str aS)) ak))) (c2 fJ (ae 0) (cK (.tup (eP.map PV.str)))))))
def lI(C:CC):Sx:=(aI (Qc (zE (gb (eG (cN aR (ac (ae 2) (ac (cK (.ty "dict")) ak))))) (bI (c2 fJ (ae 3) (ae 2)))) (bA (cN aV ak)) cU)
  (ba 2 (c2 B_ (ae 2) (ae 3))))
def fQ(C:CC):Sx:=
 (aI (ba 2 (ae 0))
  (aI (jc (mo (ae 1)) (PL 3) (lI C))
  (bA (cN aV aae))))
def cJ(C:CC):Sx:=
 (bA (ae 1))
def cy(C:CC):Sx:=
 (bA (cN yt aaf))
def FL:Nat→CC×DD×NN×DD
 |0=>(fun _ _=>.bad,fun _ _ _=>.bad,fun _ _=>.bad,fun _ _ _=>.bad)
 |k+1=>(fun f ps=>match f with
  |.law=>aJ (qT (FL k).1 (FL k).2.1) 1 16 ps
  |.J6=>aJ (eX (FL k).1) 1 8 ps
  |.Om=>aJ (ib (FL k).1) 4 26 ps
  |.O9=>aJ (jP (FL k).1) 4 7 ps
  |.written=>aJ (fU (FL k).1 (FL k).2.2.2) 2 5 ps
  |.A_=>aJ (eC (FL k).1) 2 2 ps
  |.z_=>aJ (dL (FL k).1) 2 3 ps
  |.u9=>aJ (cI (FL k).1) 1 3 ps
  |.is_value=>aJ (gy (FL k).1) 1 1 ps
  |.n_=>aJ (aK (FL k).1) 2 2 ps
  |.m7=>aJ (fE (FL k).1) 2 2 ps
  |.v8=>aJ (bZ (FL k).1 (FL k).2.2.2) 3 4 ps
  |.u6=>aJ (cH (FL k).1 (FL k).2.2.2) 2 4 ps
  |.J_=>aJ (fV (FL k).1) 2 2 ps
  |.o9=>aJ (bp (FL k).1) 1 1 ps
  |.q_=>aJ (ce (FL k).1) 2 3 ps
  |.j_=>aJ (bS (FL k).1) 2 3 ps
  |.OD=>aJ (gw (FL k).1) 1 1 ps
  |.v9=>aJ (fG (FL k).1) 2 2 ps
  |.p7=>aJ (dM (FL k).1) 2 2 ps
  |.m_=>aJ (dh (FL k).1) 2 2 ps
  |.o8=>aJ (cG (FL k).1) 3 4 ps
  |.z9=>aJ (dr (FL k).1) 2 3 ps
  |.K1=>aJ (ie (FL k).1) 1 1 ps
  |.found=>aJ (fQ (FL k).1) 2 4 ps
  |.k_=>aJ (cJ (FL k).1) 2 2 ps
  |.j8=>aJ (cy (FL k).1) 2 2 ps
  |_=>.bad,fun f ps h=>match f with
  |.K5=>lS (ia (FL k).1 (FL k).2.1) 3 4 ps h
  |.G3=>lS (gx (FL k).1) 2 4 ps h
  |_=>.bad,fun f ps=>match f with
  |_=>.bad,fun f ps h=>match f with
  |.i_=>rC (cq (FL k).1 (FL k).2.2.2) 2 3 ps h
  |.f9=>bn (bz (FL k).1) 1 1 ps h
  |.b_=>bn (bH (FL k).1 (FL k).2.2.2) 3 4 ps h
  |.d7=>bn (aX (FL k).1) 2 2 ps h
  |.j9=>rC (fZ (FL k).1) 1 1 ps h
  |.d8=>bn (ay (FL k).1 (FL k).2.2.2) 3 7 ps h
  |.o7=>bn (fm (FL k).1) 2 2 ps h
  |.w6=>bn (dm (FL k).1 (FL k).2.2.2 (Nat.ble 2 (dl k))) 3 5 ps h
  |.d9=>bn (bx (FL k).1 (FL k).2.2.2) 3 6 ps h
  |.h_=>bn (bY (FL k).1 (FL k).2.2.2 (Nat.ble 2 (dl k))) 2 3 ps h
  |.g_=>bn (aZ (FL k).1 (FL k).2.2.2 (Nat.ble 2 (dl k))) 2 3 ps h
  |.j4=>bn (cr (FL k).1 (FL k).2.2.2 (Nat.ble 2 (dl k))) 2 3 ps h
  |.j5=>bn (bL (FL k).1 (FL k).2.2.2) 3 3 ps h
  |.t_=>bn (cB (FL k).1) 4 6 ps h
  |.j6=>bn (cF (FL k).1 (Nat.ble 2 (dl k))) 1 1 ps h
  |_=>.bad)
abbrev X_(k:Nat):DD:=(FL k).2.2.2
abbrev F(k:Nat):CC:=(FL k).1
abbrev L(k:Nat):DD:=(FL k).2.1
abbrev M(k:Nat):NN:=(FL k).2.2.1
theorem vQ{k:Nat}:∀(f:Fn) qs v,F k f qs=.ok v→qs.length=(eD f).length:=by
 cases k with
 |zero=>intro f qs v h;cases h
 |succ k=>intro f qs v h;cases f with
  |law=>exact aO (f:=qT (FL k).1 (FL k).2.1) (np:=1) (n:=16) qs v h
  |J6=>exact aO (f:=eX (FL k).1) (np:=1) (n:=8) qs v h
  |Om=>exact aO (f:=ib (FL k).1) (np:=4) (n:=26) qs v h
  |O9=>exact aO (f:=jP (FL k).1) (np:=4) (n:=7) qs v h
  |written=>exact aO (f:=fU (FL k).1 (FL k).2.2.2) (np:=2) (n:=5) qs v h
  |A_=>exact aO (f:=eC (FL k).1) (np:=2) (n:=2) qs v h
  |z_=>exact aO (f:=dL (FL k).1) (np:=2) (n:=3) qs v h
  |u9=>exact aO (f:=cI (FL k).1) (np:=1) (n:=3) qs v h
  |is_value=>exact aO (f:=gy (FL k).1) (np:=1) (n:=1) qs v h
  |n_=>exact aO (f:=aK (FL k).1) (np:=2) (n:=2) qs v h
  |m7=>exact aO (f:=fE (FL k).1) (np:=2) (n:=2) qs v h
  |v8=>exact aO (f:=bZ (FL k).1 (FL k).2.2.2) (np:=3) (n:=4) qs v h
  |u6=>exact aO (f:=cH (FL k).1 (FL k).2.2.2) (np:=2) (n:=4) qs v h
  |J_=>exact aO (f:=fV (FL k).1) (np:=2) (n:=2) qs v h
  |o9=>exact aO (f:=bp (FL k).1) (np:=1) (n:=1) qs v h
  |q_=>exact aO (f:=ce (FL k).1) (np:=2) (n:=3) qs v h
  |j_=>exact aO (f:=bS (FL k).1) (np:=2) (n:=3) qs v h
  |OD=>exact aO (f:=gw (FL k).1) (np:=1) (n:=1) qs v h
  |v9=>exact aO (f:=fG (FL k).1) (np:=2) (n:=2) qs v h
  |p7=>exact aO (f:=dM (FL k).1) (np:=2) (n:=2) qs v h
  |m_=>exact aO (f:=dh (FL k).1) (np:=2) (n:=2) qs v h
  |o8=>exact aO (f:=cG (FL k).1) (np:=3) (n:=4) qs v h
  |z9=>exact aO (f:=dr (FL k).1) (np:=2) (n:=3) qs v h
  |K1=>exact aO (f:=ie (FL k).1) (np:=1) (n:=1) qs v h
  |found=>exact aO (f:=fQ (FL k).1) (np:=2) (n:=4) qs v h
  |k_=>exact aO (f:=cJ (FL k).1) (np:=2) (n:=2) qs v h
  |j8=>exact aO (f:=cy (FL k).1) (np:=2) (n:=2) qs v h
  |_=>cases h
theorem MD{k:Nat}:∀(f:Fn) qs hs,L k f qs hs≠.bad→qs.length=(eD f).length:=by
 cases k with
 |zero=>intro f qs hs h;exact absurd rfl h
 |succ k=>intro f qs hs h;cases f with
  |K5=>exact tB (f:=ia (FL k).1 (FL k).2.1) (np:=3) (n:=4) qs hs h
  |G3=>exact tB (f:=gx (FL k).1) (np:=2) (n:=4) qs hs h
  |_=>exact absurd rfl h
theorem jV{k:Nat}:∀(f:Fn) qs hs,X_ k f qs hs≠.bad→qs.length=(eD f).length:=by
 cases k with
 |zero=>intro f qs hs h;exact absurd rfl h
 |succ k=>intro f qs hs h;cases f with
  |i_=>exact tD (f:=cq (FL k).1 (FL k).2.2.2) (np:=2) (n:=3) qs hs h
  |f9=>exact cC (f:=bz (FL k).1) (np:=1) (n:=1) qs hs h
  |b_=>exact cC (f:=bH (FL k).1 (FL k).2.2.2) (np:=3) (n:=4) qs hs h
  |d7=>exact cC (f:=aX (FL k).1) (np:=2) (n:=2) qs hs h
  |j9=>exact tD (f:=fZ (FL k).1) (np:=1) (n:=1) qs hs h
  |d8=>exact cC (f:=ay (FL k).1 (FL k).2.2.2) (np:=3) (n:=7) qs hs h
  |o7=>exact cC (f:=fm (FL k).1) (np:=2) (n:=2) qs hs h
  |w6=>exact cC (f:=dm (FL k).1 (FL k).2.2.2 (Nat.ble 2 (dl k))) (np:=3) (n:=5) qs hs h
  |d9=>exact cC (f:=bx (FL k).1 (FL k).2.2.2) (np:=3) (n:=6) qs hs h
  |h_=>exact cC (f:=bY (FL k).1 (FL k).2.2.2 (Nat.ble 2 (dl k))) (np:=2) (n:=3) qs hs h
  |g_=>exact cC (f:=aZ (FL k).1 (FL k).2.2.2 (Nat.ble 2 (dl k))) (np:=2) (n:=3) qs hs h
  |j4=>exact cC (f:=cr (FL k).1 (FL k).2.2.2 (Nat.ble 2 (dl k))) (np:=2) (n:=3) qs hs h
  |j5=>exact cC (f:=bL (FL k).1 (FL k).2.2.2) (np:=3) (n:=3) qs hs h
  |t_=>exact cC (f:=cB (FL k).1) (np:=4) (n:=6) qs hs h
  |j6=>exact cC (f:=cF (FL k).1 (Nat.ble 2 (dl k))) (np:=1) (n:=1) qs hs h
  |_=>exact absurd rfl h
set_option genInjectivity false in
set_option genSizeOf false in
structure Sys(K:W.Frag)(mg:Str→Option Value) where
 adr:Fn→Addr
 fd:Fn→FuncData
 O_:Nat→Addr
 ok:∀f,Vp K (iI f) (rN f) (ke f) (adr f) (fd f)
 bi:∀f,bC K (fd f) (eD f) []
 m:∀f,pj f=true→mg (iI f)=some (.ref (adr f))
 n:∀i,mg (DZ i)=none
 Pr:Value
 J2:mg "MOST_COUNTED"=some Pr
 QD:aQ (.int 2000) Pr
 Qo:Value
 K8:mg "MOST_DEPTH"=some Qo
 Rr:aQ (.int 6) Qo
 Qa:Value
 J9:mg "MOST_FIELDS"=some Qa
 Q6:aQ (.int 8) Qa
 Pk:Value
 I_:mg "MOST_LETTERS"=some Pk
 QC:aQ (.int 8) Pk
 Qn:Value
 K7:mg "MOST_SIGNS"=some Qn
 Rq:aQ (.int 400) Qn
 P_:Value
 J7:mg "MOST_THINGS"=some P_
 Q5:aQ (.int 40) P_
 M8:Value
 G5:mg "MOST_WORD_SIGNS"=some M8
 P0:aQ (.int 40) M8
 Tz:Value
 QT:mg "SIGNS"=some Tz
 Vt:aQ (.str (S fA)) Tz
 OJ:Value
 G9:mg "SMALL_LETTERS"=some OJ
 Qs:aQ (.str (S aS)) OJ
 Qm:Value
 K6:mg "WORD_SIGNS"=some Qm
 Rp:aQ (.str (S cD)) Qm
 O3:Addr
 G_:mg "COMMAND_WORDS"=some (.ref O3)
 G8:Mi K O3 eP
 Sw:Cls K (O_ 0)
 QL:W.makesIn K (O_ 0)=true
 QS:W.findIn K (.ref (O_ 0)) "__init__"=some (some (.builtin "object.__init__"))
 QM:W.keepIn K (.ref (O_ 0))=true
 Vv:mg "Word"=some (.ref (O_ 0))
 Q7:eF K (O_ 0) "coded" (adr .m_)
 Rt:eF K (O_ 0) "fits" (adr .v9)
 Qg:eF K (O_ 0) "spelling" (adr .k_)
 QV:Cls K (O_ 1)
 Pg:W.makesIn K (O_ 1)=true
 Pj:W.findIn K (.ref (O_ 1)) "__init__"=some (some (.builtin "object.__init__"))
 Ph:W.keepIn K (.ref (O_ 1))=true
 Tq:mg "Number"=some (.ref (O_ 1))
 Qt:eF K (O_ 1) "coded" (adr .m_)
 QF:eF K (O_ 1) "fits" (adr .p7)
 Pz:eF K (O_ 1) "spelling" (adr .j8)
 M6:mg "Refused"=some (.ref (O_ 500))
 Wy:Cls K (O_ 600)
 Wj:mg "Pen"=some (.ref (O_ 600))
 Wh:∀f∈Sv 600,iP K (O_ 600) f
 Wi:Mk K (O_ 600) (adr .j9)
 Ol:eF K (O_ 600) "outcome_written" (adr .f9)
 J5:eF K (O_ 600) "outcome_refused" (adr .d7)
 Ru:eF K (O_ 600) "write" (adr .o7)
 SM:eF K (O_ 600) "put" (adr .w6)
 O7:eF K (O_ 600) "truth_wanted" (adr .h_)
 O8:eF K (O_ 600) "thing_wanted" (adr .g_)
 Px:eF K (O_ 600) "list_wanted" (adr .j4)
 Py:eF K (O_ 600) "begin_round" (adr .j5)
 Qh:eF K (O_ 600) "count_one" (adr .j6)
 Tt:Cls K (O_ 601)
 Tp:mg "Writer"=some (.ref (O_ 601))
 Tj:∀f∈Sv 601,iP K (O_ 601) f
 Tn:Mk K (O_ 601) (adr .i_)
 Oo:eF K (O_ 601) "write_nodes" (adr .b_)
 Ow:eF K (O_ 601) "write_node" (adr .d8)
 Oj:eF K (O_ 601) "write_rounds" (adr .d9)
 D_:W.exmOne K (.ref (O_ 500)) (.ref (O_ 500))=some true
 L_:V1 K (O_ 500) (adr .j7) "word"
def Sys.tab{K:W.Frag}{mg:Str→Option Value}(Y:Sys K mg):Tab
 |0=>some (Y.O_ 0)
 |1=>some (Y.O_ 1)
 |500=>some (Y.O_ 500)
 |600=>some (Y.O_ 600)
 |601=>some (Y.O_ 601)
 |_=>none
section
variable(P:Program)(w:World){K:W.Frag}{mg:Str→Option Value}{base:Heap}
abbrev All(Y:Sys K mg)(base:Heap)(k:Nat):Prop:=∀f,bK P w K mg base QX (dl k) (Y.adr f) (Y.fd f) (eD f) (WT K Y.tab (eD f).length (F k f))
abbrev sN(Y:Sys K mg)(base:Heap)(k:Nat):Prop:=∀f,bK P w K mg base QX (dl k) (Y.adr f) (Y.fd f) (eD f) (Rz K Y.tab (eD f).length (L k f))
abbrev pM(Y:Sys K mg)(base:Heap)(k:Nat):Prop:=∀f,bK P w K mg base (PB P w) (dl k) (Y.adr f) (Y.fd f) (eD f) (Rz K Y.tab (eD f).length (X_ k f))
theorem Cl(Y:Sys K mg){k:Nat}{X:Cx}(G:All P w Y base k)(hp:X.prog=P:=by rfl)(hw:X.w=w:=by rfl)(hK:X.K=K:=by rfl)(hm:X.mg=mg:=by rfl)(hb:X.base=base:=by rfl):∀C fn,lA (F k) C=some fn→∀a,Y.tab C=some a→∃np,oR X Y.tab (dl k) "coded" a np fn:=by
 subst hp hw hK hm hb;intro C fn h a ha;unfold lA at h
 split at h
 ·cases h;cases ha;exact⟨_,Y.Sw,⟨_,_,_,rfl,Y.Q7,G .m_,Y.bi .m_⟩,vQ .m_⟩
 ·cases h;cases ha;exact⟨_,Y.QV,⟨_,_,_,rfl,Y.Qt,G .m_,Y.bi .m_⟩,vQ .m_⟩
 ·cases h
theorem xI(Y:Sys K mg){k:Nat}{X:Cx}(G:All P w Y base k)(hp:X.prog=P:=by rfl)(hw:X.w=w:=by rfl)(hK:X.K=K:=by rfl)(hm:X.mg=mg:=by rfl)(hb:X.base=base:=by rfl):∀C fn,jy (F k) C=some fn→∀a,Y.tab C=some a→∃np,oR X Y.tab (dl k) "fits" a np fn:=by
 subst hp hw hK hm hb;intro C fn h a ha;unfold jy at h
 split at h
 ·cases h;cases ha;exact⟨_,Y.Sw,⟨_,_,_,rfl,Y.Rt,G .v9,Y.bi .v9⟩,vQ .v9⟩
 ·cases h;cases ha;exact⟨_,Y.QV,⟨_,_,_,rfl,Y.QF,G .p7,Y.bi .p7⟩,vQ .p7⟩
 ·cases h
theorem uX(Y:Sys K mg){k:Nat}{X:Cx}(G:All P w Y base k)(hp:X.prog=P:=by rfl)(hw:X.w=w:=by rfl)(hK:X.K=K:=by rfl)(hm:X.mg=mg:=by rfl)(hb:X.base=base:=by rfl):∀C fn,gr (F k) C=some fn→∀a,Y.tab C=some a→∃np,oR X Y.tab (dl k) "spelling" a np fn:=by
 subst hp hw hK hm hb;intro C fn h a ha;unfold gr at h
 split at h
 ·cases h;cases ha;exact⟨_,Y.Sw,⟨_,_,_,rfl,Y.Qg,G .k_,Y.bi .k_⟩,vQ .k_⟩
 ·cases h;cases ha;exact⟨_,Y.QV,⟨_,_,_,rfl,Y.Pz,G .j8,Y.bi .j8⟩,vQ .j8⟩
 ·cases h
theorem pA(Y:Sys K mg):∀C Ca,gL C=true→Y.tab C=some Ca→W.exmOne K (.ref Ca) (.ref (Y.O_ 500))=some true:=by
 intro C Ca h ha;unfold gL at h;split at h
 ·cases ha;exact Y.D_
 ·cases h
theorem yy(Y:Sys K mg):∀C Ca,nB C=true→Y.tab C=some Ca→XM C="word"∧∃fI,V1 K Ca fI "word":=by
 intro C Ca h ha;unfold nB at h;split at h
 ·cases ha;exact⟨rfl,_,Y.L_⟩
 ·cases h
theorem cE(Y:Sys K mg):pH K Y.tab 600 (Y.O_ 600):=⟨rfl,Y.Wy,Y.Wh⟩
theorem bO(Y:Sys K mg):pH K Y.tab 601 (Y.O_ 601):=⟨rfl,Y.Tt,Y.Tj⟩
theorem sc:∀f,dQ (kX f) (eD f) (aG (ke f)):=fun f=>by cases f<;>exact⟨rfl,rfl,rfl,by decide+kernel,rfl,by decide+kernel,by decide+kernel⟩
section
variable{X:Cx}{T:Tab}{Ew:XK}{e a b:Expr}{es:List Expr}{f g:Ex}{fs:Ax}{pos p0:Pos}
theorem rst{x:Str}{l:List Nat}{j pos}(e:x=S l:=by kernel_rfl):RE X T Ew (.Constant (.str x) j pos) (cK (.str l)):=GY l e
theorem ra1(ha:RE X T Ew e f)(hs:starEach [e] X.env=(false,eval e X.env)::starEach [] X.env:=by rfl):RA X T Ew [e] (ac f ak):=af ha jg hs
theorem Zh{keys:List (Option Expr)}{values:List Expr}{fs:List (Ex×Ex)}(h:Z6 X T Ew pos keys values fs)(Vm:keys.all (·.isSome)=true:=by rfl)(hl:keys.length=values.length:=by rfl)(h0:keys≠ []:=by intro z;cases z)(YQ:keys.length≤15:=by decide)(ZM:fs.length=keys.length:=by rfl):RE X T Ew (.Dict keys values pos) (gM fs):=Dd h Vm hl h0 YQ ZM
def ZC(P:Program)(w:World)(K:W.Frag)(mg:Str→Option Value)(base:Heap)(A:Around)(T:Tab)(x:Str)(fn:List PV→Out):Prop:=∃k f fd ps,bK P w K mg base QX k f fd ps (WT K T ps.length fn)∧(∀qs v,fn qs=.ok v→qs.length=ps.length)∧aY k A∧mg x=some (.ref f)∧W.keepIn K (.ref f)=true∧bC K fd ps []
theorem zc{x:Str}{fn:List PV→Out}(c:ZC X.prog X.w X.K X.mg X.base X.A T x fn)(hg:Gl X x)(ha:RA X T Ew (e::es) fs)(PJ:nD0 x:=by decide)(he:sE0 X e es:=by rfl)(J3:sP0 X es pos:=by rfl):RE X T Ew (.Call (.Name x p0) (e::es) [] pos) (bu fn fs):=by obtain⟨k,f,fd,ps,G,l,hr,m,kp,bi⟩:=c;exact De G l hr hg m kp bi ha PJ he J3
def ZL(P:Program)(w:World)(K:W.Frag)(mg:Str→Option Value)(base:Heap)(A:Around)(T:Tab)(x:Str)(fn:List PV→List PO→Res PV):Prop:=∃k f fd ps,bK P w K mg base QX k f fd ps (Rz K T ps.length fn)∧(∀qs hs,fn qs hs≠.bad→qs.length=ps.length)∧aY k A∧mg x=some (.ref f)∧W.keepIn K (.ref f)=true∧bC K fd ps []
theorem Xm{x:Str}{fn:List PV→List PO→Res PV}(c:ZL X.prog X.w X.K X.mg X.base X.A T x fn)(hg:Gl X x)(ha:RA X T Ew (e::es) fs)(PJ:nD0 x:=by decide)(he:sE0 X e es:=by rfl)(J3:sP0 X es pos:=by rfl):RE X T Ew (.Call (.Name x p0) (e::es) [] pos) (fK fn fs):=by obtain⟨k,f,fd,ps,G,l,hr,m,kp,bi⟩:=c;exact zZ G l hr hg m kp bi ha PJ he J3
def ZG(P:Program)(w:World)(K:W.Frag)(mg:Str→Option Value)(base:Heap)(A:Around)(T:Tab)(x:Str)(fn:List PV→List PO→Res PV):Prop:=∃k f fd ps,bK P w K mg base (PB P w) k f fd ps (Rz K T ps.length fn)∧(∀qs hs,fn qs hs≠.bad→qs.length=ps.length)∧aY k A∧mg x=some (.ref f)∧W.keepIn K (.ref f)=true∧bC K fd ps []
section
variable{apos:Pos}{o:Expr}{fo:Ex}{C:Nat}{m x:Str}{fn:List PV→List PO→Res PV}{σ:L2.St}{pl:Sem Bool}{A0:Around}
def ZO(P:Program)(w:World)(K:W.Frag)(mg:Str→Option Value)(base:Heap)(A:Around)(T:Tab)(C:Nat)(m:Str)(fn:List PV→List PO→Res PV):Prop:=∃k f fd ps Ca,pH K T C Ca∧eF K Ca m f∧m∉Sv C∧bK P w K mg base (PB P w) k f fd ps (Rz K T ps.length fn)∧(∀qs hs,fn qs hs≠.bad→qs.length=ps.length)∧aY k A∧bC K fd ps []
theorem zo(c:ZO X.prog X.w X.K X.mg X.base X.A T C m fn)(hp:cg (PB X.prog X.w) X Ew)(ho:RE X T Ew o fo)(ha:RA X T Ew (e::es) fs)(Rh:sE0 X e es:=by rfl)(J3:sP0 X es pos:=by rfl)
  (ht:eval (.Call (.Attribute o m apos) (e::es) [] pos) X.env=(do
   let ov ← eval o X.env
   standAt apos.atName
   let(f,first) ← holding [ov] (getMethod ov m pl)
   callWith pos f first (backTo pos (starEach (e::es) X.env)) (backToKw pos (keywordEach [] X.env))):=by rfl):RE X T Ew (.Call (.Attribute o m apos) (e::es) [] pos) (be C fn fo fs):=by
 obtain⟨k,f,fd,ps,Ca,oc,me,nm,G,l,hr,bi⟩:=c;exact zX (pl:=pl) oc me nm G l hp hr bi ho ha Rh J3 ht
theorem zo0(c:ZO X.prog X.w X.K X.mg X.base X.A T C m fn)(hp:cg (PB X.prog X.w) X Ew)(ho:RE X T Ew o fo)
  (ht:eval (.Call (.Attribute o m apos) [] [] pos) X.env=(do
   let ov ← eval o X.env
   standAt apos.atName
   let(f,first) ← holding [ov] (getMethod ov m pl)
   callWith pos f first (backTo pos (starEach [] X.env)) (backToKw pos (keywordEach [] X.env))):=by rfl):RE X T Ew (.Call (.Attribute o m apos) [] [] pos) (be C fn fo ak):=by
 obtain⟨k,f,fd,ps,Ca,oc,me,nm,G,l,hr,bi⟩:=c;exact ya (pl:=pl) oc me nm G l hp hr bi ho ht
theorem zoA(c:ZO X.prog X.w X.K X.mg X.base X.A T C m fn)(hp:iO (PB X.prog X.w) X Ew σ)(ho:RE X T Ew o fo)(ha:RA X T Ew (e::es) fs)(Rh:sE0 X e es:=by rfl)(J3:sP0 X es pos:=by rfl)
  (ht:eval (.Call (.Attribute o m apos) (e::es) [] pos) X.env=(do
   let ov ← eval o X.env
   standAt apos.atName
   let(f,first) ← holding [ov] (getMethod ov m pl)
   callWith pos f first (backTo pos (starEach (e::es) X.env)) (backToKw pos (keywordEach [] X.env))):=by rfl):REa X T Ew σ (.Call (.Attribute o m apos) (e::es) [] pos) (be C fn fo fs):=by
 obtain⟨k,f,fd,ps,Ca,oc,me,nm,G,l,hr,bi⟩:=c;exact xZ (pl:=pl) oc me nm G l hp hr bi ho ha Rh J3 ht
def ZOH(P:Program)(w:World)(K:W.Frag)(mg:Str→Option Value)(base:Heap)(A:Around)(T:Tab)(C:Nat)(m:Str)(fn:List PV→List PO→Res PV):Prop:=∃k f fd ps Ca,pH K T C Ca∧eF K Ca m f∧m∉Sv C∧oS P w K mg base k f fd ps (Za K T ps.length fn)∧(∀qs hs,fn qs hs≠.bad→qs.length=ps.length)∧fO k A∧bC K fd ps []
theorem zoH(c:∀a,ZOH X.prog X.w X.K X.mg X.base (A0.mark a) T C m fn)(ho:RE X T (fun _ _ _=>False) o fo)(ha:RA X T (fun _ _ _=>False) (e::es) fs)(hA:∃a,X.A=A0.mark a:=by exact⟨_,rfl⟩)(Rh:sE0 X e es:=by rfl)(J3:sP0 X es pos:=by rfl)
  (ht:eval (.Call (.Attribute o m apos) (e::es) [] pos) X.env=(do
   let ov ← eval o X.env
   standAt apos.atName
   let(f,first) ← holding [ov] (getMethod ov m pl)
   callWith pos f first (backTo pos (starEach (e::es) X.env)) (backToKw pos (keywordEach [] X.env))):=by rfl):RE X T (fun _ _ _=>False) (.Call (.Attribute o m apos) (e::es) [] pos) (be C fn fo fs):=by
 obtain⟨a,ea⟩:=hA;obtain⟨k,f,fd,ps,Ca,oc,me,nm,G,l,hr,bi⟩:=c a;rw[← ea]at hr;exact xY (pl:=pl) oc me nm G l hr bi ho ha Rh J3 ht
def ZK(P:Program)(w:World)(K:W.Frag)(mg:Str→Option Value)(base:Heap)(A:Around)(T:Tab)(C:Nat)(x:Str)(fn:List PV→List PO→Res PV):Prop:=∃k f fd ps Ca,Mk K Ca f∧T C=some Ca∧bK P w K mg base (PB P w) k f fd ps (Rz K T ps.length fn)∧(∀qs hs,fn qs hs≠.bad→qs.length=ps.length)∧aY (k+1) A∧mg x=some (.ref Ca)∧bC K fd ps []
theorem zk(c:ZK X.prog X.w X.K X.mg X.base X.A T C x fn)(hp:cg (PB X.prog X.w) X Ew)(hg:Gl X x)(ha:RA X T Ew (e::es) fs)(PJ:nD0 x:=by decide)(he:sE0 X e es:=by rfl)(J3:sP0 X es pos:=by rfl):RE X T Ew (.Call (.Name x p0) (e::es) [] pos) (wt C fn fs):=by obtain⟨k,f,fd,ps,Ca,M,t,G,l,hr,m,bi⟩:=c;exact Hc M t G l hp hr hg m bi ha PJ he J3
theorem zk0(c:ZK X.prog X.w X.K X.mg X.base X.A T C x fn)(hp:cg (PB X.prog X.w) X Ew)(hg:Gl X x)(PJ:nD0 x:=by decide):RE X T Ew (.Call (.Name x p0) [] [] pos) (wt C fn ak):=by obtain⟨k,f,fd,ps,Ca,M,t,G,l,hr,m,bi⟩:=c;exact Db M t G l hp hr hg m bi PJ
theorem zcH(c:ZG X.prog X.w X.K X.mg X.base X.A T x fn)(hp:cg (PB X.prog X.w) X Ew)(hg:Gl X x)(ha:RA X T Ew (e::es) fs)(PJ:nD0 x:=by decide)(he:sE0 X e es:=by rfl)(J3:sP0 X es pos:=by rfl):RE X T Ew (.Call (.Name x p0) (e::es) [] pos) (oO fn fs):=by obtain⟨k,f,fd,ps,G,l,hr,m,kp,bi⟩:=c;exact yd G l hp hr hg m kp bi ha PJ he J3
end
theorem FJ{k:Nat}{A:Around}(Y:Sys K mg)(G:pM P w Y base k)(hr:aY (dl k) A)(f:Fn)(hp:pj f=true):ZG P w K mg base A Y.tab (iI f) (X_ k f):=⟨_,_,_,_,G f,jV f,hr,Y.m f hp,(Y.ok f).kp,Y.bi f⟩
def XD:Fn→Nat
 |.f9=>600
 |.b_=>601
 |.d7=>600
 |.d8=>601
 |.o7=>600
 |.w6=>600
 |.d9=>601
 |.h_=>600
 |.g_=>600
 |.j4=>600
 |.j5=>600
 |.j6=>600
 |.i_=>601
 |.j9=>600
 |_=>0
def IR:Fn→Bool
 |.f9=>true
 |.b_=>true
 |.d7=>true
 |.d8=>true
 |.o7=>true
 |.w6=>true
 |.d9=>true
 |.h_=>true
 |.g_=>true
 |.j4=>true
 |.j5=>true
 |.j6=>true
 |_=>false
def IS:Fn→Bool
 |.i_=>true
 |.j9=>true
 |_=>false
def IT:Fn→Bool
 |.d7=>true
 |_=>false
def clN:Fn→Str
 |.i_=>"Writer"
 |.j9=>"Pen"
 |_=>""
theorem FG{k:Nat}{A:Around}(Y:Sys K mg)(G:pM P w Y base k)(hr:aY (dl k) A)(f:Fn)(hp:IR f=true):ZO P w K mg base A Y.tab (XD f) (iI f) (X_ k f):=by
 cases f with
 |f9=>exact⟨_,_,_,_,_,cE Y,Y.Ol,by decide,G .f9,jV .f9,hr,Y.bi .f9⟩
 |b_=>exact⟨_,_,_,_,_,bO Y,Y.Oo,by decide,G .b_,jV .b_,hr,Y.bi .b_⟩
 |d7=>exact⟨_,_,_,_,_,cE Y,Y.J5,by decide,G .d7,jV .d7,hr,Y.bi .d7⟩
 |d8=>exact⟨_,_,_,_,_,bO Y,Y.Ow,by decide,G .d8,jV .d8,hr,Y.bi .d8⟩
 |o7=>exact⟨_,_,_,_,_,cE Y,Y.Ru,by decide,G .o7,jV .o7,hr,Y.bi .o7⟩
 |w6=>exact⟨_,_,_,_,_,cE Y,Y.SM,by decide,G .w6,jV .w6,hr,Y.bi .w6⟩
 |d9=>exact⟨_,_,_,_,_,bO Y,Y.Oj,by decide,G .d9,jV .d9,hr,Y.bi .d9⟩
 |h_=>exact⟨_,_,_,_,_,cE Y,Y.O7,by decide,G .h_,jV .h_,hr,Y.bi .h_⟩
 |g_=>exact⟨_,_,_,_,_,cE Y,Y.O8,by decide,G .g_,jV .g_,hr,Y.bi .g_⟩
 |j4=>exact⟨_,_,_,_,_,cE Y,Y.Px,by decide,G .j4,jV .j4,hr,Y.bi .j4⟩
 |j5=>exact⟨_,_,_,_,_,cE Y,Y.Py,by decide,G .j5,jV .j5,hr,Y.bi .j5⟩
 |j6=>exact⟨_,_,_,_,_,cE Y,Y.Qh,by decide,G .j6,jV .j6,hr,Y.bi .j6⟩
 |_=>cases hp
theorem FI{k:Nat}{A:Around}(Y:Sys K mg)(G:pM P w Y base k)(hr:aY (dl k+1) A)(f:Fn)(hp:IS f=true):ZK P w K mg base A Y.tab (XD f) (clN f) (X_ k f):=by
 cases f with
 |i_=>exact⟨_,_,_,_,_,Y.Tn,rfl,G .i_,jV .i_,hr,Y.Tp,Y.bi .i_⟩
 |j9=>exact⟨_,_,_,_,_,Y.Wi,rfl,G .j9,jV .j9,hr,Y.Wj,Y.bi .j9⟩
 |_=>cases hp
abbrev wz(Y:Sys K mg)(base:Heap)(k:Nat):Prop:=∀f,IT f=true→oS P w K mg base (dl k) (Y.adr f) (Y.fd f) (eD f) (Za K Y.tab (eD f).length (X_ k f))
theorem JJ{k:Nat}{A:Around}(Y:Sys K mg)(G:wz P w Y base k)(hr:aY (dl k) A)(f:Fn)(hp:IT f=true):∀a,ZOH P w K mg base (A.mark a) Y.tab (XD f) (iI f) (X_ k f):=by
 intro a
 cases f with
 |d7=>exact⟨_,_,_,_,_,cE Y,Y.J5,by decide,G .d7 rfl,jV .d7,hr.h.mark a,Y.bi .d7⟩
 |_=>cases hp
theorem zty{x:Str}{n:String}(hm:X.mg x=none)(hg:Gl X x:=by rfl)(hv:bootBuiltins x=some (.type n):=by decide+kernel)(hn:x≠"__name__":=by decide)(hd:nD0 x:=by decide):RE X T Ew (.Name x pos) (cK (.ty n)):=GX hg hm hv hn hd
theorem V3{p1:Pos}{x:Str}{n:String}(hi:X.mg "isinstance"=none)(hm:X.mg x=none)(ha:RE X T Ew e f)(hg:Gl X "isinstance":=by rfl)(h1:Gl X x:=by rfl)(hv:bootBuiltins x=some (.type n):=by decide+kernel)(hn:x≠"__name__":=by decide)(hd:nD0 x:=by decide)(he:starEach [e,.Name x p1] X.env=(false,eval e X.env)::starEach [.Name x p1] X.env:=by rfl)(h2:starEach [.Name x p1] X.env=(false,eval (.Name x p1) X.env)::starEach [] X.env:=by rfl)(J3:(backTo pos (starEach [.Name x p1] X.env)).any (·.1)=false:=by rfl):RE X T Ew (.Call (.Name "isinstance" p0) [e,.Name x p1] [] pos) (cN aR (ac f (ac (cK (.ty n)) ak))):=yc hg hi (af ha (af (zty hm h1 hv hn hd) jg h2) he) he J3
theorem zl(hm:X.mg "len"=none)(ha:RE X T Ew e f)(hg:Gl X "len":=by rfl)(he:starEach [e] X.env=(false,eval e X.env)::starEach [] X.env:=by rfl)(J3:(backTo pos (starEach [] X.env)).any (·.1)=false:=by rfl):RE X T Ew (.Call (.Name "len" p0) [e] [] pos) (cN gk (ac f ak)):=Hd hg hm (ra1 ha he) he J3
theorem req(hu:X.A.units+64<cLine)(ha:RE X T Ew a f)(hb:RE X T Ew b g)(hm:behindInMarks .Eq b=false:=by exact bv _):RE X T Ew (.Compare a [.Eq] [b] pos) (c2 Pb f g):=gO (vH hu) rO ha hb hm
theorem X4(hu:X.A.units+64<cLine)(ha:RE X T Ew a f)(hb:RE X T Ew b g)(hm:behindInMarks .Eq b=false:=by exact bv _):RT X T Ew (.Compare a [.Eq] [b] pos) (bI (c2 Pb f g)):=bU (vH hu) rO ha hb hm
theorem bJ{i:Nat}{x:Str}{pos':Pos}(hN:X.N.Nodup)(ha:RE X T Ew a f)(hi:X.N[i]? =some x:=by rfl)(hx:Loc X.env.scope x:=by first|exact .inl rfl|exact .inr rfl)(hs:swapsWith a (some (.Name x pos')) pos.line X.env=pure false:=by rfl)(hf:X.fn x=true∨X.env.scope.names.lookup x=some .local:=by first|exact .inl rfl|exact .inr rfl):RS X T Ew (.Assign [.Name x pos'] a pos) (ba i f):=GT hN hi hx ha hs hf
theorem JK{k:Nat}{A:Around}(Y:Sys K mg)(G:All P w Y base k)(hr:aY (dl k) A)(f:Fn)(hp:pj f=true):ZC P w K mg base A Y.tab (iI f) (F k f):=⟨_,_,_,_,G f,vQ f,hr,Y.m f hp,(Y.ok f).kp,Y.bi f⟩
theorem FH{k:Nat}{A:Around}(Y:Sys K mg)(G:sN P w Y base k)(hr:aY (dl k) A)(f:Fn)(hp:pj f=true):ZL P w K mg base A Y.tab (iI f) (L k f):=⟨_,_,_,_,G f,MD f,hr,Y.m f hp,(Y.ok f).kp,Y.bi f⟩
theorem zr(ha:RE X T Ew e f):Ud X T Ew [.Return (some e) pos] (bA f):=aC (GU ha)
end
theorem fY(Y:Sys K mg):bK P w K mg base QX 1 (Y.adr .j7) (Y.fd .j7) (eD .j7) (tm K "word"):=BD (Y.ok .j7) (sc .j7) rfl fun _ _ _ _ _ _=>xc (Dm (pv 0) (pv 1) rfl)
abbrev dR(f:Fn)(A:Around)(s:Shared)(fa:Addr)(E_:Value):Around:=A.deeper (envOfC (rN f) (aG (ke f)) s.heap.objs.size fa E_)
def RH(Y:Sys K mg)(base:Heap)(k:Nat)(f:Fn)(b:Sx):Prop:=∀(E_:Value)(A:Around)(outer:List Env)(s:Shared)(H:Hp)(E:XK)(fa:Addr),fO (dl k+1) (dR f A s fa E_)→Ud (Z2 P w K mg base (kX f) (rN f) (aG (ke f)) fa E_ A outer s H E) Y.tab (fun _ _ _=>False) (bV (ke f)) b
def RX(Y:Sys K mg)(base:Heap)(k:Nat)(f:Fn)(b:Sx):Prop:=∀(E_:Value)(A:Around)(outer:List Env)(s:Shared)(H:Hp)(E:XK)(fa:Addr),aY (dl k+1) (dR f A s fa E_)→Ud (iW (PB P w) P w K mg base (kX f) (rN f) (aG (ke f)) fa E_ A outer s H E) Y.tab E (bV (ke f)) b
def RR(Y:Sys K mg)(base:Heap)(k:Nat)(f:Fn)(b:Sx):Prop:=∀(E_:Value)(A:Around)(outer:List Env)(s:Shared)(H:Hp)(E:XK)(fa:Addr),aY (dl k+1) (dR f A s fa E_)→Ud (iW QX P w K mg base (kX f) (rN f) (aG (ke f)) fa E_ A outer s H E).Xu Y.tab (fun _ _ _=>False) (bV (ke f)) b
section
variable(Y:Sys K mg){k:Nat}(G:All P w Y base k)(GL:sN P w Y base k)(GG:pM P w Y base k)
include G GL GG
theorem Vc{f:Fn}{b:Sx}(h:∀(E_:Value)(A:Around)(outer:List Env)(s:Shared)(H:Hp)(E:XK)(fa:Addr),aY (dl k) (dR f A s fa E_)→(dR f A s fa E_).units+64<cLine→(kX f).Nodup→(∀i,mg (DZ i)=none)→(∀(g:Fn),pj g=true→ZC P w K mg base (dR f A s fa E_) Y.tab (iI g) (F k g))→(∀(g:Fn),pj g=true→ZL P w K mg base (dR f A s fa E_) Y.tab (iI g) (L k g))→(∀(g:Fn),pj g=true→ZG P w K mg base (dR f A s fa E_) Y.tab (iI g) (X_ k g))→(∀(g:Fn),IR g=true→ZO P w K mg base (dR f A s fa E_) Y.tab (XD g) (iI g) (X_ k g))→(∀(g:Fn),IS g=true→ZK P w K mg base (dR f A s fa E_) Y.tab (XD g) (clN g) (X_ k g))→cg (PB P w) (iW (PB P w) P w K mg base (kX f) (rN f) (aG (ke f)) fa E_ A outer s H E) E→Ud (iW (PB P w) P w K mg base (kX f) (rN f) (aG (ke f)) fa E_ A outer s H E) Y.tab E (bV (ke f)) b):RX P w Y base k f b:=fun E_ A outer s H E fa hR=>by have hr:=hR.mono (Nat.le_succ (dl k));exact h E_ A outer s H E fa hr hr.units (sc f).nd Y.n (JK P w Y G hr) (FH P w Y GL hr) (FJ P w Y GG hr) (FG P w Y GG hr) (FI P w Y GG hR) (jH.passes fun _ _ _ h=>h)
theorem kh:RX P w Y base k .i_ (cq (F k) (X_ k)):=Vc P w Y G GL GG fun _ _ _ _ _ _ _ hr hu hN n c d zx O N_ hp=>(ah (nV (bO Y) rfl (rv 0) (zk0 (N_ .j9 rfl) hp rfl))
  (ah (nV (bO Y) rfl (rv 0) rH)
  (aC (dU (by with_unfolding_all exact PassesOwn.leaving) rfl (iA (rv 1)) (aU hN rfl (Or.inl rfl)) (aC (mX hu (dX (bO Y) rfl (rv 0)) (aH hu (rv 2) ai) (rv 2)))))))
theorem ir:RX P w Y base k .f9 (bz (F k)):=Vc P w Y G GL GG fun _ _ _ _ _ _ _ hr hu hN n c d zx O N_ hp=>(zr (aD (af rst (ra1 (gZ kd PySem.F.plainAttrs_str PySem.F.slot_str_join PySem.F.type_str_join iJ eR rst (ra1 (dX (cE Y) rfl (rv 0))))))))
theorem iV:RX P w Y base k .b_ (bH (F k) (X_ k)):=Vc P w Y G GL GG fun _ _ _ _ _ _ _ hr hu hN n c d zx O N_ hp=>(aC (dU (by with_unfolding_all exact PassesOwn.leaving) rfl (iA (rv 1)) (aU hN rfl (Or.inl rfl)) (aC (bN (zo (O .d8 rfl) hp (rv 0) (af (rv 3) (ra1 (rv 2))))))))
theorem iw:RX P w Y base k .d7 (aX (F k)):=Vc P w Y G GL GG fun _ _ _ _ _ _ _ hr hu hN n c d zx O N_ hp=>(zr (aD (af rst (af (rv 1) (ra1 (gZ kd PySem.F.plainAttrs_str PySem.F.slot_str_join PySem.F.type_str_join iJ eR rst (ra1 (dX (cE Y) rfl (rv 0)))))))))
theorem mF:RX P w Y base k .j9 (fZ (F k)):=Vc P w Y G GL GG fun _ _ _ _ _ _ _ hr hu hN n c d zx O N_ hp=>(ah (nV (cE Y) rfl (rv 0) (kQ jg))
  (aC (nV (cE Y) rfl (rv 0) ai)))
theorem jd:RX P w Y base k .d8 (ay (F k) (X_ k)):=Vc P w Y G GL GG fun _ _ _ _ _ _ _ hr hu hN n c d zx O N_ hp=>(ah (bJ hN (aH hu (rv 1) ai))
  (aC (bg (X4 hu (rv 3) rst) (aC (bN (zo (O .o7 rfl) hp (dX (bO Y) rfl (rv 0)) (ra1 (aH hu (rv 1) ai))))) (aC (bg (X4 hu (rv 3) rst) (aC (bN (zo (O .w6 rfl) hp (dX (bO Y) rfl (rv 0)) (af (zc (c .m7 rfl) rfl (af (aH hu (rv 1) ai) (ra1 (rv 2)))) (ra1 (aH hu (rv 1) ai)))))) (aC (bg (X4 hu (rv 3) rst) (aC (bN (zo (O .d9 rfl) hp (rv 0) (af (rv 1) (ra1 (rv 2)))))) (aC (bg (X4 hu (rv 3) rst) (ah (bJ hN (zo (O .h_ rfl) hp (dX (bO Y) rfl (rv 0)) (ra1 (zc (c .m7 rfl) rfl (af (aH hu (rv 1) ai) (ra1 (rv 2)))))))
  (aC (bN (zo (O .b_ rfl) hp (rv 0) (af (tI (df (rv 4)) (aH hu (rv 1) ai) (aH hu (rv 1) ai)) (ra1 (rv 2))))))) (aC (bg (X4 hu (rv 3) rst) (ah (bJ hN (aH hu (dX (bO Y) rfl (rv 0)) (aH hu (rv 1) ai)))
  (aC (bN (zo (O .b_ rfl) hp (rv 0) (af (aH hu (rv 5) ai) (ra1 (zc (c .v8 rfl) rfl (af (rv 1) (af (rv 5) (ra1 (rv 2))))))))))) (ah (bJ hN (aH hu (rv 2) ai))
  (aC (bN (zo (O .b_ rfl) hp (rv 0) (af (aH hu (rv 6) ai) (ra1 (zc (c .u6 rfl) rfl (af (aH hu (rv 1) ai) (ra1 (rv 2)))))))))))))))))))))
theorem rA:RX P w Y base k .o7 (fm (F k)):=Vc P w Y G GL GG fun _ _ _ _ _ _ _ hr hu hN n c d zx O N_ hp=>(aC (bN (gZ lK PySem.F.plainAttrs_list PySem.F.slot_list_append PySem.F.type_list_append fS er (dX (cE Y) rfl (rv 0)) (ra1 (rv 1)))))
theorem vt:RX P w Y base k .w6 (dm (F k) (X_ k) (Nat.ble 2 (dl k))):=Vc P w Y G GL GG fun _ _ _ _ _ _ _ hr hu hN n c d zx O N_ hp=>(ah (bJ hN (zo (O .g_ rfl) hp (rv 0) (ra1 (rv 1))))
  (ah (bJ hN (zc (c .OD rfl) rfl (ra1 (rv 2))))
  (ah (bg (eQ (df (nj (xI P w Y G) (rv 4) hr (ra1 (rv 3))))) (aC (gX (fY P w Y) Y.L_ (Y.bi .j7) hr rfl rfl Y.M6 jH (ra1 rst))) aM)
  (ah (bN (zo (O .o7 rfl) hp (rv 0) (ra1 (nj (Cl P w Y G) (rv 4) hr (ra1 (rv 3))))))
  (zr (rv 3))))))
theorem iq:RX P w Y base k .d9 (bx (F k) (X_ k)):=Vc P w Y G GL GG fun _ _ _ _ _ _ _ hr hu hN n c d zx O N_ hp=>(ah (bJ hN (zo (O .j4 rfl) hp (dX (bO Y) rfl (rv 0)) (ra1 (zc (c .m7 rfl) rfl (af (aH hu (rv 1) ai) (ra1 (rv 2)))))))
  (aC (dU (by with_unfolding_all exact PassesOwn.leaving) rfl (CZ rfl (n .enumerate) (ra1 (rv 3))) (zR (bQ (aU hN rfl (Or.inl rfl)) (bQ (aU hN rfl (Or.inl rfl)) nh))) (ah (bN (zo (O .j5 rfl) hp (dX (bO Y) rfl (rv 0)) (af (rv 4) (ra1 (aH hu (rv 1) ai)))))
  (aC (bN (zo (O .b_ rfl) hp (rv 0) (af (aH hu (rv 1) ai) (ra1 (zc (c .o8 rfl) rfl (af (aH hu (rv 1) ai) (af (aD (ra1 (rv 5))) (ra1 (rv 2))))))))))))))
theorem jQ:RX P w Y base k .h_ (bY (F k) (X_ k) (Nat.ble 2 (dl k))):=Vc P w Y G GL GG fun _ _ _ _ _ _ _ hr hu hN n c d zx O N_ hp=>(ah (bJ hN (zo (O .g_ rfl) hp (rv 0) (ra1 (rv 1))))
  (ah (bg (eQ (df (V3 (n .isinstance) (n .bool) (rv 2)))) (aC (gX (fY P w Y) Y.L_ (Y.bi .j7) hr rfl rfl Y.M6 jH (ra1 rst))) aM)
  (zr (rv 2))))
theorem jR:RX P w Y base k .g_ (aZ (F k) (X_ k) (Nat.ble 2 (dl k))):=Vc P w Y G GL GG fun _ _ _ _ _ _ _ hr hu hN n c d zx O N_ hp=>(ah (bN (zo0 (O .j6 rfl) hp (rv 0)))
  (ah (bJ hN (zc (c .found rfl) rfl (af (aH hu (rv 1) ai) (ra1 (eo (rv 1) (gI ai) eJ)))))
  (ah (bg (eQ (df (rv 2))) (aC (gX (fY P w Y) Y.L_ (Y.bi .j7) hr rfl rfl Y.M6 jH (ra1 rst))) aM)
  (zr (aH hu (rv 2) ai)))))
theorem ki:RX P w Y base k .j4 (cr (F k) (X_ k) (Nat.ble 2 (dl k))):=Vc P w Y G GL GG fun _ _ _ _ _ _ _ hr hu hN n c d zx O N_ hp=>(ah (bJ hN (zo (O .g_ rfl) hp (rv 0) (ra1 (rv 1))))
  (ah (bg (eQ (df (V3 (n .isinstance) (n .list) (rv 2)))) (aC (gX (fY P w Y) Y.L_ (Y.bi .j7) hr rfl rfl Y.M6 jH (ra1 rst))) aM)
  (zr (rv 2))))
theorem kj:RX P w Y base k .j5 (bL (F k) (X_ k)):=Vc P w Y G GL GG fun _ _ _ _ _ _ _ hr hu hN n c d zx O N_ hp=>(ah (bN (zo0 (O .j6 rfl) hp (rv 0)))
  (aC (bg (bU qe cw (rv 1) ai (bv _)) (aC (bN (zo (O .o7 rfl) hp (rv 0) (ra1 (rv 2))))) aM)))
theorem kJ:RX P w Y base k .t_ (cB (F k)):=Vc P w Y G GL GG fun _ _ _ _ _ _ _ hr hu hN n c d zx O N_ hp=>(ah (dU (by with_unfolding_all exact PassesOwn.leaving) rfl (GW rfl (n .zip) (af (rv 1) (ra1 (rv 2)))) (zR (bQ (aU hN rfl (Or.inl rfl)) (bQ (aU hN rfl (Or.inl rfl)) nh))) (aC (mX hu (rv 0) (rv 4) (zc (c .m7 rfl) rfl (af (rv 5) (ra1 (rv 3)))))))
  (zr (rv 0)))
theorem lR:RX P w Y base k .j6 (cF (F k) (Nat.ble 2 (dl k))):=Vc P w Y G GL GG fun _ _ _ _ _ _ _ hr hu hN n c d zx O N_ hp=>(ah (nV (cE Y) rfl (rv 0) (aW (dX (cE Y) rfl (rv 0)) ai))
  (aC (bg (bU qe cw (dX (cE Y) rfl (rv 0)) (gh rfl Y.J2 Y.QD) (bv _)) (aC (gX (fY P w Y) Y.L_ (Y.bi .j7) hr rfl rfl Y.M6 jH (ra1 rst))) aM)))
end
theorem fh(Y:Sys K mg){k:Nat}{f:Fn}{b:Sx}(h:RX P w Y base k f b):bK P w K mg base (PB P w) (dl (k+1)) (Y.adr f) (Y.fd f) (eD f) (Rz K Y.tab (eD f).length (bn b (eD f).length (kX f).length)):=NI (Y.ok f) (sc f) fun E_ A outer s H E hr=>h E_ A outer s H E _ hr
theorem fi(Y:Sys K mg){k:Nat}{f:Fn}{b:Sx}(h:RX P w Y base k f b):bK P w K mg base (PB P w) (dl (k+1)) (Y.adr f) (Y.fd f) (eD f) (Rz K Y.tab (eD f).length (rC b (eD f).length (kX f).length)):=NH (Y.ok f) (sc f) fun E_ A outer s H E hr=>h E_ A outer s H E _ hr
theorem fz(Y:Sys K mg){k:Nat}{f:Fn}{b:Sx}(h:RH P w Y base k f b):oS P w K mg base (dl (k+1)) (Y.adr f) (Y.fd f) (eD f) (Za K Y.tab (eD f).length (bn b (eD f).length (kX f).length)):=LP (Y.ok f) (sc f) fun E_ A outer s H E hr=>h E_ A outer s H E _ hr
theorem iB(Y:Sys K mg){k:Nat}:RH P w Y base k .d7 (aX (F k)):=fun E_ A outer s H E f hr=>by have hu:=hr.units;have hN:=(sc .d7).nd;have n:=Y.n;exact(zr (aD (af rst (af (rv 1) (ra1 (gZ kd PySem.F.plainAttrs_str PySem.F.slot_str_join PySem.F.type_str_join iJ eR rst (ra1 (dX (cE Y) rfl (rv 0)))))))))
theorem fp(Y:Sys K mg){k:Nat}{f:Fn}{b:Sx}(h:RR P w Y base k f b):bK P w K mg base QX (dl (k+1)) (Y.adr f) (Y.fd f) (eD f) (WT K Y.tab (eD f).length (aJ b (eD f).length (kX f).length)):=EU (Y.ok f) (sc f) fun E_ A outer s H E hr=>h E_ A outer s H E _ hr
theorem fl(Y:Sys K mg){k:Nat}{f:Fn}{b:Sx}(h:RR P w Y base k f b):bK P w K mg base QX (dl (k+1)) (Y.adr f) (Y.fd f) (eD f) (Rz K Y.tab (eD f).length (lS b (eD f).length (kX f).length)):=EW (Y.ok f) (sc f) fun E_ A outer s H E hr=>h E_ A outer s H E _ hr
section
variable(Y:Sys K mg){k:Nat}(G:All P w Y base k)(GL:sN P w Y base k)(GG:pM P w Y base k)(GZ:wz P w Y base k)
include G GL GG GZ
theorem rz{f:Fn}{b:Sx}(h:∀(E_:Value)(A:Around)(outer:List Env)(s:Shared)(H:Hp)(E:XK)(fa:Addr),aY (dl k) (dR f A s fa E_)→(dR f A s fa E_).units+64<cLine→(kX f).Nodup→(∀i,mg (DZ i)=none)→(∀(g:Fn),pj g=true→ZC P w K mg base (dR f A s fa E_) Y.tab (iI g) (F k g))→(∀(g:Fn),pj g=true→ZL P w K mg base (dR f A s fa E_) Y.tab (iI g) (L k g))→(∀(g:Fn),pj g=true→ZG P w K mg base (dR f A s fa E_) Y.tab (iI g) (X_ k g))→(∀(g:Fn),IR g=true→ZO P w K mg base (dR f A s fa E_) Y.tab (XD g) (iI g) (X_ k g))→(∀(g:Fn),IS g=true→ZK P w K mg base (dR f A s fa E_) Y.tab (XD g) (clN g) (X_ k g))→(∀(g:Fn),IT g=true→∀a,ZOH P w K mg base ((dR f A s fa E_).mark a) Y.tab (XD g) (iI g) (X_ k g))→Ud (iW QX P w K mg base (kX f) (rN f) (aG (ke f)) fa E_ A outer s H E).Xu Y.tab (fun _ _ _=>False) (bV (ke f)) b):RR P w Y base k f b:=fun E_ A outer s H E fa hR=>by have hr:=hR.mono (Nat.le_succ (dl k));exact h E_ A outer s H E fa hr hr.units (sc f).nd Y.n (JK P w Y G hr) (FH P w Y GL hr) (FJ P w Y GG hr) (FG P w Y GG hr) (FI P w Y GG hR) (JJ P w Y GZ hr)
theorem Ku:RR P w Y base k .law (qT (F k) (L k)):=rz P w Y G GL GG GZ fun _ _ _ _ _ _ _ hr hu hN n c d zx O N_ oh=>(ah (bJ hN (kQ (af ai (ra1 ai))))
  (ah (bJ hN (zc (c .J6 rfl) rfl (ra1 (Xm (d .G3 rfl) rfl (af (rv 0) (ra1 (rv 1)))))))
  (ah (bJ hN (Xm (d .K5 rfl) rfl (af (rv 0) (af (rv 1) (ra1 (rv 2))))))
  (ah (bJ hN (aH hu (kn (af ai (ra1 ai))) (cz (dq (zc (c .A_ rfl) rfl (af (rv 0) (ra1 ai))) ai) ai)))
  (ah (iz (M:=["_law_k","_law_names_here","_law_at"]) _ rfl (dj.of (by kernel_rfl)) (cL rfl (n .range) (ra1 ai)) (fun _ _ _ _ _=>kl) (fun _ _ _ _ _=>(aH hu (rv 1) (aW (rv 2) (rv 0)))) (iy:=5) hN rfl rfl (by with_unfolding_all rfl))
  (ah (bJ hN (cz (dq (Xm (d .G3 rfl) rfl (af (rv 0) (ra1 (rv 1)))) ai) ai))
  (ah (bJ hN (kQ jg))
  (ah (dU PassesOwn.never rfl (cL rfl (n .range) (ra1 (rv 6))) (aU hN rfl (Or.inl rfl)) (aC (bN (gZ lK PySem.F.plainAttrs_list PySem.F.slot_list_append PySem.F.type_list_append fS er (rv 7) (ra1 (nk (M:=["_law_j","_law_script","_law_spot"]) _ rfl (dj.of (by kernel_rfl)) (cL rfl (n .range) (ra1 (cz (dq (Xm (d .G3 rfl) rfl (af (rv 0) (ra1 (rv 1)))) ai) ai))) (fun _ _ _ _ _=>kl) (fun _ _ _ _ _=>(rF (cz (Xm (d .G3 rfl) rfl (af (rv 1) (ra1 (rv 2)))) ai) ai))))))))
  (ah (iz (M:=["_law_k","_law_script","_law_spot"]) _ rfl (dj.of (by kernel_rfl)) (cL rfl (n .range) (ra1 (rv 6))) (fun _ _ _ _ _=>kl) (fun _ _ _ _ _=>(aW rst (rG rfl (n .str) (ra1 (cz (Xm (d .G3 rfl) rfl (af (rv 1) (ra1 (rv 2)))) ai))))) (iy:=9) hN rfl rfl (by with_unfolding_all rfl))
  (ah (iz (M:=["_law_k","_law_script","_law_spot"]) _ rfl (dj.of (by kernel_rfl)) (cL rfl (n .range) (ra1 (rv 6))) (fun _ _ _ _ _=>kl) (fun _ _ _ _ _=>(gO qe cw (cz (dq (Xm (d .G3 rfl) rfl (af (rv 1) (ra1 (rv 2)))) ai) ai) ai (bv _))) (iy:=10) hN rfl rfl (by with_unfolding_all rfl))
  (ah (bJ hN (kQ jg))
  (ah (dU PassesOwn.never rfl (cL rfl (n .range) (ra1 (rv 6))) (aU hN rfl (Or.inl rfl)) (aC (bN (gZ lK PySem.F.plainAttrs_list PySem.F.slot_list_append PySem.F.type_list_append fS er (rv 11) (ra1 (Zh (gf (aH hu (rv 5) ai) (Dc rfl (n .list) (ra1 (aH hu (rv 7) (rv 8)))) (gf (aH hu (rv 5) ai) (aH hu (rv 9) (rv 8)) (gf (aH hu (rv 5) ai) (aH hu (rv 10) (rv 8)) kL)))))))))
  (ah (bJ hN (zc (c .Om rfl) rfl (af (rv 2) (af (rv 3) (af (rv 5) (ra1 (cz (zc (c .A_ rfl) rfl (af (rv 0) (ra1 ai))) ai)))))))
  (ah (bJ hN (Zh (gf (aH hu (rv 3) ai) (Zh (gf (aH hu (rv 5) ai) (tJ (rv 11)) kL)) kL)))
  (ah (bJ hN (zc (c .O9 rfl) rfl (af (rv 7) (af (rv 9) (af (rv 10) (ra1 (gO (jk hu) gJ (aH hu (rv 3) ai) (aH hu (rv 3) ai) (bv _))))))))
  (ah (bg (bU (jk hu) gJ (zc (c .written rfl) rfl (af (rv 12) (ra1 (rv 13)))) (rv 14) (bv _)) (zr je) aM)
  (ah (bJ hN (Zh (gf (aH hu (rv 3) ai) (Zh (gf (aH hu (rv 5) ai) (nq (rv 11) (nY ai)) kL)) kL)))
  (ah (bg (bU (jk hu) gJ (zc (c .written rfl) rfl (af (rv 12) (ra1 (rv 15)))) (zc (c .O9 rfl) rfl (af (nq (rv 7) (nY ai)) (af (nq (rv 9) (nY ai)) (af (nq (rv 10) (nY ai)) (ra1 (gO (jk hu) gJ (aH hu (rv 3) ai) (aH hu (rv 3) ai) (bv _))))))) (bv _)) (zr je) aM)
  (zr (req hu (zc (c .written rfl) rfl (af (rv 12) (ra1 (rv 13)))) (rv 14)))))))))))))))))))))
theorem yf:RR P w Y base k .J6 (eX (F k)):=rz P w Y G GL GG GZ fun _ _ _ _ _ _ _ hr hu hN n c d zx O N_ oh=>(ah (bJ hN rst)
  (ah (bJ hN (aW ai (cz (dq (rv 0) ai) ai)))
  (ah (bJ hN (cz (dq (rv 0) ai) (rv 2)))
  (ah (bJ hN (kQ jg))
  (ah (dU PassesOwn.never rfl (cL rfl (n .range) (ra1 ai)) (aU hN rfl (Or.inr rfl)) (ah (tF (M:=["_law_j","_law_some","_law_n","_law_k"]) _ rfl (dj.of (by kernel_rfl)) (cL rfl (n .range) (ra1 ai)) (fun _ _ _ _ _=>kl) (fun _ _ _ _ _=>(aH hu (rv 1) (cz (aW (aW (dq (rv 2) ai) (gg ai (rv 0))) (gg (gg ai (dq (rv 3) ai)) (rJ rfl (n .int) (ra1 (req hu (cz (rv 2) ai) ai))))) ai))) (iy:=6) hN rfl rfl (by with_unfolding_all rfl))
  (aC (bg (X4 hu (cz (rv 0) ai) ai) (aC (bN (gZ lK PySem.F.plainAttrs_list PySem.F.slot_list_append PySem.F.type_list_append fS er (rv 4) (ra1 (gZ kd PySem.F.plainAttrs_str PySem.F.slot_str_join PySem.F.type_str_join iJ eR rst (ra1 (eo (rv 6) eJ (gI (aW ai (cz (rv 5) ai)))))))))) (aC (bg (X4 hu (cz (rv 0) ai) ai) (ah (tE (rv 6) (rv 3) (aH hu (rv 1) (cz (aW (aW (dq (rv 0) ai) (gg ai (rv 5))) ai) ai)))
  (aC (bN (gZ lK PySem.F.plainAttrs_list PySem.F.slot_list_append PySem.F.type_list_append fS er (rv 4) (ra1 (gZ kd PySem.F.plainAttrs_str PySem.F.slot_str_join PySem.F.type_str_join iJ eR rst (ra1 (eo (rv 6) eJ (gI (rv 2)))))))))) (aC (bN (gZ lK PySem.F.plainAttrs_list PySem.F.slot_list_append PySem.F.type_list_append fS er (rv 4) (ra1 (eo (gZ kd PySem.F.plainAttrs_str PySem.F.slot_str_join PySem.F.type_str_join iJ eR rst (ra1 (aW (eo (rv 6) (gI (cz (rv 5) ai)) eJ) (eo (rv 6) eJ (gI (cz (rv 5) ai)))))) eJ (gI (rF ai (dq (rv 5) ai))))))))))))))
  (ah (bJ hN (kn (af rst (af rst (af rst (af rst (af rst (af rst (af rst (af rst (af rst (af rst (ra1 rst)))))))))))))
  (ah (bg (RW.rt (zM (bU xk cw (vy rfl (n .len) rfl (n .set) (rv 4)) ai (bv _)) (vw (bU (jk hu) gJ (nk (M:=["_law_name","_law_told"]) _ rfl (dj.of (by kernel_rfl)) (iA (rv 4)) (fun _ _ _ _ _=>(zT (bU (HK hu) Ds (rv 0) (rv 1) (by with_unfolding_all rfl)))) (fun _ _ _ _ _=>(rv 0))) (kn jg) (bv _))))) (zr (kn (af rst (af rst (af rst (af rst (af rst (af rst (af rst (af rst (af rst (af rst (af rst (ra1 rst)))))))))))))) aM)
  (zr (rv 4)))))))))
theorem yg:RR P w Y base k .K5 (ia (F k) (L k)):=rz P w Y G GL GG GZ fun _ _ _ _ _ _ _ hr hu hN n c d zx O N_ oh=>(ah (bJ hN (eo (rv 2) eJ (gI (aH hu (kn (af ai (ra1 ai))) (cz (zc (c .A_ rfl) rfl (af (rv 0) (ra1 ai))) ai)))))
  (zr (nk (M:=["_law_k","_law_some","_law_script","_law_spot"]) _ rfl (dj.of (by kernel_rfl)) (cL rfl (n .range) (ra1 ai)) (fun _ _ _ _ _=>kl) (fun _ _ _ _ _=>(aH hu (rv 1) (cz (dq (Xm (d .G3 rfl) rfl (af (rv 2) (ra1 (rv 3)))) ai) (zl (n .len) (rv 1))))))))
theorem Af:RR P w Y base k .Om (ib (F k)):=rz P w Y G GL GG GZ fun _ _ _ _ _ _ _ hr hu hN n c d zx O N_ oh=>(ah (zP (rv 1) (zS (bQ (aU hN rfl (Or.inl rfl)) (bQ (aU hN rfl (Or.inl rfl)) (bQ (aU hN rfl (Or.inl rfl)) (bQ (aU hN rfl (Or.inr rfl)) (bQ (aU hN rfl (Or.inl rfl)) (bQ (aU hN rfl (Or.inl rfl)) (bQ (aU hN rfl (Or.inl rfl)) nh)))))))))
  (ah (zP (rv 2) (zS (bQ (aU hN rfl (Or.inl rfl)) (bQ (aU hN rfl (Or.inl rfl)) (bQ (aU hN rfl (Or.inl rfl)) (bQ (aU hN rfl (Or.inl rfl)) (bQ (aU hN rfl (Or.inl rfl)) nh)))))))
  (ah (bJ hN (aH hu (nk (M:=["_law_name","_law_param"]) _ rfl (dj.of (by kernel_rfl)) (iA (rv 0)) (fun _ _ _ _ _=>(zT (bU (jk hu) gJ (rv 0) (rv 1) (bv _)))) (fun _ _ _ _ _=>(rv 0))) ai))
  (ah (bJ hN (aD (af rst (af (rv 8) (af (aD (af (rv 7) (ra1 (rv 12)))) (af (aD (ra1 (aD (af rst (ra1 (aD (ra1 (aD (ra1 (rv 8)))))))))) (ra1 rst)))))))
  (ah (bJ hN (aD (af rst (af (aH hu (rv 0) ai) (af (aD (ra1 (rv 7))) (af ai (ra1 (aD (af (aD (af rst (ra1 rst))) (af (rv 17) (af (aD (af rst (ra1 rst))) (ra1 (aD (af rst (af (aD (af (rv 7) (ra1 (rv 13)))) (ra1 rst))))))))))))))))
  (ah (bJ hN (aD (af rst (af (aH hu (rv 0) ai) (af (aD (ra1 (aD (ra1 (rv 9))))) (af (aD (ra1 (rv 10))) (ra1 (aD (ra1 (aD (af rst (ra1 (aD (ra1 (aD (ra1 (rv 10)))))))))))))))))
  (ah (bJ hN (aD (af rst (af (aD (ra1 (rv 7))) (af (aD (ra1 (aD (af rst (ra1 rst))))) (ra1 (aD (af (aD (af rst (ra1 rst))) (ra1 (aD (af rst (af (aD (ra1 (rv 16))) (ra1 rst)))))))))))))
  (ah (bJ hN (aD (ra1 (aD (af rst (af (aD (ra1 (rv 6))) (ra1 rst)))))))
  (ah (bg (bU (jk hu) gJ (rv 6) (rv 5) (bv _)) (aC (bJ hN (aW (rv 21) (aD (af (aD (af rst (ra1 rst))) (ra1 (aD (af rst (af (aD (af (rv 5) (ra1 (rv 13)))) (ra1 rst)))))))))) aM)
  (ah (bJ hN (aD (af rst (af (aH hu (rv 0) (aW ai (rv 3))) (af (aD (ra1 (aD (ra1 (rv 5))))) (af (aD (ra1 (rv 6))) (ra1 (rv 21))))))))
  (ah (bJ hN (aD (af rst (af (aH hu (rv 0) ai) (af (aD (af (aD (af (rv 5) (ra1 (rv 14)))) (ra1 (aD (af (rv 5) (ra1 (rv 15))))))) (af km (ra1 km)))))))
  (ah (bJ hN (aD (ra1 (aD (af rst (af (rv 5) (af (aD (af (rv 4) (ra1 (rv 11)))) (af (aD (af (rv 22) (ra1 (rv 23)))) (ra1 rst)))))))))
  (ah (bJ hN (kn (af (rv 18) (af (aD (af rst (af (aH hu (rv 0) ai) (af (aD (ra1 (rv 9))) (af ai (ra1 (aD (ra1 (rv 19))))))))) (ra1 (aD (af rst (af (aH hu (rv 0) ai) (af (aD (af (rv 7) (ra1 (rv 16)))) (af km (ra1 (aD (ra1 (rv 20))))))))))))))
  (zr (zW rfl (n .tuple) (ra1 (aW (rv 25) (kn (ra1 (aD (af rst (af (aH hu (rv 0) ai) (af (aD (ra1 (rv 4))) (af km (ra1 (rv 24))))))))))))))))))))))))))
theorem Dg:RR P w Y base k .O9 (jP (F k)):=rz P w Y G GL GG GZ fun _ _ _ _ _ _ _ hr hu hN n c d zx O N_ oh=>(ah (bJ hN rst)
  (ah (dU PassesOwn.never rfl (cL rfl (n .range) (ra1 (zl (n .len) (rv 0)))) (aU hN rfl (Or.inr rfl)) (ah (iz (M:=["_law_one","_law_has_tag","_law_tags","_law_k"]) _ rfl (dj.of (by kernel_rfl)) (iA (aH hu (rv 0) (rv 5))) (fun _ _ _ _ _=>kl) (fun _ _ _ _ _=>(aW (rG rfl (n .str) (ra1 (rv 0))) (gg (aW rst (aH hu (rv 2) (rv 3))) (rJ rfl (n .int) (ra1 (rv 1)))))) (iy:=6) hN rfl rfl (by with_unfolding_all rfl))
  (ah (bJ hN (aW (aW (aW (aW (aW (rv 4) (gg rst (rJ rfl (n .int) (ra1 (gO qe cw (rv 5) ai (bv _)))))) rst) (gZ kd PySem.F.plainAttrs_str PySem.F.slot_str_join PySem.F.type_str_join iJ eR rst (ra1 (rv 6)))) rst) (aH hu (rv 1) (rv 5))))
  (ah (bg (eQ (df (aH hu (rv 2) (rv 5)))) (zr (aD (af rst (af rst (ra1 (aW (rv 4) rst)))))) aM)
  (aC (bJ hN (aW (rv 4) rst)))))))
  (zr (aD (af rst (ra1 (rv 4)))))))
theorem Ae:RR P w Y base k .G3 (gx (F k)):=rz P w Y G GL GG GZ fun _ _ _ _ _ _ _ hr hu hN n c d zx O N_ oh=>(ah (tE (rv 1) ai (aW (aH hu (rv 1) ai) ai))
  (ah (bJ hN (aH hu (rv 1) ai))
  (ah (bJ hN (aW (gg (gg ai (rv 2)) (rv 2)) (gg ai (rv 2))))
  (ah (bg (bU qe cw (zl (n .len) (rv 0)) ai (bv _)) (aC (bJ hN (aW (rv 3) (gg (aH hu (rv 0) (cz (rv 2) (zl (n .len) (rv 0)))) (aW ai (dq (rv 2) (zl (n .len) (rv 0)))))))) aM)
  (zr (dq (cz (gg (rv 3) ai) ai) ai))))))
theorem ye:RR P w Y base k .written (fU (F k) (X_ k)):=rz P w Y G GL GG GZ fun _ _ _ _ _ _ _ hr hu hN n c d zx O N_ oh=>(ah (bJ hN (aH hu (rv 0) (nY ai)))
  (ah (bN (zc (c .z_ rfl) rfl (af (aH hu (rv 2) ai) (ra1 (rv 1)))))
  (ah (bJ hN (zk (N_ .i_ rfl) (xh fun _ _ _ h=>h) rfl (ra1 (rv 0))))
  (ah (CY (pA Y) (fun pn W Eb σ hp=>(zO (zoA (O .b_ rfl) hp (rv 3) (af (aH hu (rv 2) ai) (ra1 (aD (af (zc (c .u9 rfl) rfl (ra1 (rv 1))) (ra1 km)))))))) (fun pn a=>(zr (zoH (oh .d7 rfl) (dX (bO Y) rfl (rv 3)) (ra1 (Kt (yy Y) (rv 4)))))) hN rfl rfl rfl Y.M6)
  (zr (zo0 (O .f9 rfl) (xh fun _ _ _ h=>h) (dX (bO Y) rfl (rv 3))))))))
theorem tO:RR P w Y base k .A_ (eC (F k)):=rz P w Y G GL GG GZ fun _ _ _ _ _ _ _ hr hu hN n c d zx O N_ oh=>(ah (bg (bU xk cw (rv 1) (zl (n .len) (rv 0)) (bv _)) (zr (aH hu (rv 0) (rv 1))) aM)
  (zr ai))
theorem oW:RR P w Y base k .z_ (dL (F k)):=rz P w Y G GL GG GZ fun _ _ _ _ _ _ _ hr hu hN n c d zx O N_ oh=>(ah (bg (eQ (df (V3 (n .isinstance) (n .dict) (rv 1)))) (aC eI) aM)
  (ah (dU PassesOwn.never rfl (mZ (rv 0)) (aU hN rfl (Or.inl rfl)) (aC (bg (bU (hX hu) gj (rv 2) (rv 1) (by with_unfolding_all rfl)) (aC eI) aM)))
  (aC (dU PassesOwn.never rfl (mZ (rv 1)) (aU hN rfl (Or.inl rfl)) (ah (bg (bU (hX hu) gj (rv 2) (rv 0) (by with_unfolding_all rfl)) (aC eI) aM)
  (aC (bg (eQ (df (zc (c .is_value rfl) rfl (ra1 (aH hu (rv 1) (rv 2)))))) (aC eI) aM)))))))
theorem mJ:RR P w Y base k .u9 (cI (F k)):=rz P w Y G GL GG GZ fun _ _ _ _ _ _ _ hr hu hN n c d zx O N_ oh=>(ah (bJ hN rH)
  (ah (dU PassesOwn.never rfl (mZ (rv 0)) (aU hN rfl (Or.inl rfl)) (aC (mX hu (rv 1) (rv 2) (aD (ra1 (aH hu (rv 0) (rv 2)))))))
  (zr (tJ (rv 1)))))
theorem vA:RR P w Y base k .is_value (gy (F k)):=rz P w Y G GL GG GZ fun _ _ _ _ _ _ _ hr hu hN n c d zx O N_ oh=>(zr (zc (c .n_ rfl) rfl (af (rv 0) (ra1 (gh rfl Y.K8 Y.Rr)))))
theorem kR:RR P w Y base k .n_ (aK (F k)):=rz P w Y G GL GG GZ fun _ _ _ _ _ _ _ hr hu hN n c d zx O N_ oh=>(ah (bg (bU xk cw (rv 1) ai (bv _)) (zr je) aM)
  (ah (bg (df (V3 (n .isinstance) (n .bool) (rv 0))) (zr je) aM)
  (ah (bg (df (V3 (n .isinstance) (n .int) (rv 0))) (zr (zc (c .o9 rfl) rfl (ra1 (rv 0)))) aM)
  (ah (bg (df (V3 (n .isinstance) (n .list) (rv 0))) (zr (jf (gO xl cw (zl (n .len) (rv 0)) (gh rfl Y.J7 Y.Q5) (bv _)) (nX (zc (c .j_ rfl) rfl (af (rv 0) (ra1 (rF (rv 1) ai))))))) aM)
  (ah (bg (df (V3 (n .isinstance) (n .dict) (rv 0))) (zr (zc (c .q_ rfl) rfl (af (rv 0) (ra1 (rv 1))))) aM)
  (zr (zc (c .J_ rfl) rfl (af (rv 0) (ra1 (gh rfl Y.K7 Y.Rq))))))))))
theorem tN:RR P w Y base k .m7 (fE (F k)):=rz P w Y G GL GG GZ fun _ _ _ _ _ _ _ hr hu hN n c d zx O N_ oh=>(zr (aW (aH hu (aH hu (rv 1) ai) (aH hu (rv 0) ai)) (eo (rv 0) (gI ai) eJ)))
theorem og:RR P w Y base k .v8 (bZ (F k) (X_ k)):=rz P w Y G GL GG GZ fun _ _ _ _ _ _ _ hr hu hN n c d zx O N_ oh=>(ah (bJ hN (tI (bU HJ Dr (aH hu (rv 0) ai) km (bv _)) km (aD (af (aH hu (rv 0) ai) (af (aH hu (rv 0) ai) (ra1 (rv 2)))))))
  (zr (aD (af (tJ (zcH (zx .t_ rfl) (xh fun _ _ _ h=>h) rfl (af rH (af (aH hu (rv 1) ai) (af (aH hu (rv 0) ai) (ra1 (rv 2))))))) (ra1 (rv 3))))))
theorem mI:RR P w Y base k .u6 (cH (F k) (X_ k)):=rz P w Y G GL GG GZ fun _ _ _ _ _ _ _ hr hu hN n c d zx O N_ oh=>(ah (bJ hN (aH hu (rv 1) ai))
  (ah (bJ hN (aH hu (rv 2) ai))
  (zr (aD (af (tJ (zcH (zx .t_ rfl) (xh fun _ _ _ h=>h) rfl (af (tK rfl (n .dict) (ra1 (aH hu (rv 3) ai))) (af (aH hu (rv 2) ai) (af (rv 0) (ra1 (rv 1))))))) (ra1 (aH hu (rv 3) ai)))))))
theorem yh:RR P w Y base k .J_ (fV (F k)):=rz P w Y G GL GG GZ fun _ _ _ _ _ _ _ hr hu hN n c d zx O N_ oh=>(zr (jf (V3 (n .isinstance) (n .str) (rv 0)) (jf (gO xl cw (zl (n .len) (rv 0)) (rv 1) (bv _)) (nX (zc (c .z9 rfl) rfl (af (rv 0) (ra1 (nZ rfl Y.QT Y.Vt))))))))
theorem kS:RR P w Y base k .o9 (bp (F k)):=rz P w Y G GL GG GZ fun _ _ _ _ _ _ _ hr hu hN n c d zx O N_ oh=>(zr (gO xk cw (He rfl (n .abs) (ra1 (rv 0))) (Ha ai ai) (bv _)))
theorem ko:RR P w Y base k .q_ (ce (F k)):=rz P w Y G GL GG GZ fun _ _ _ _ _ _ _ hr hu hN n c d zx O N_ oh=>(ah (bg (bU qe cw (zl (n .len) (rv 0)) (gh rfl Y.J9 Y.Q6) (bv _)) (zr je) aM)
  (ah (dU PassesOwn.never rfl (mZ (rv 0)) (aU hN rfl (Or.inl rfl)) (aC (bg (eQ (df (zc (c .K1 rfl) rfl (ra1 (rv 2))))) (zr je) aM)))
  (zr (zc (c .j_ rfl) rfl (af (Da rfl rfl (n .list) (rv 0)) (ra1 (rF (rv 1) ai)))))))
theorem jS:RR P w Y base k .j_ (bS (F k)):=rz P w Y G GL GG GZ fun _ _ _ _ _ _ _ hr hu hN n c d zx O N_ oh=>(ah (dU PassesOwn.never rfl (iA (rv 0)) (aU hN rfl (Or.inl rfl)) (aC (bg (eQ (df (zc (c .n_ rfl) rfl (af (rv 2) (ra1 (rv 1)))))) (zr je) aM)))
  (zr je))
theorem Ac:RR P w Y base k .OD (gw (F k)):=rz P w Y G GL GG GZ fun _ _ _ _ _ _ _ hr hu hN n c d zx O N_ oh=>(ah (bg (bU (ou hu) jh (rv 0) rst (bv _)) (zr (tH (Cn:=0) rfl Y.QL Y.QS Y.QM rfl Y.Vv)) aM)
  (ah (bg (bU (ou hu) jh (rv 0) rst (bv _)) (zr (tH (Cn:=1) rfl Y.Pg Y.Pj Y.Ph rfl Y.Tq)) aM)
  (ah (bg (bU (ou hu) jh (rv 0) rst (bv _)) (aC eI) aM)
  (ah (bg (bU (ou hu) jh (rv 0) rst (bv _)) (aC eI) aM)
  (ah (bg (bU (ou hu) jh (rv 0) rst (bv _)) (aC eI) aM)
  (aC eI))))))
theorem tP:RR P w Y base k .v9 (fG (F k)):=rz P w Y G GL GG GZ fun _ _ _ _ _ _ _ hr hu hN n c d zx O N_ oh=>(zr (jf (zc (c .J_ rfl) rfl (af (rv 1) (ra1 (gh rfl Y.G5 Y.P0)))) (jf (gO (jk hu) gJ (rv 1) rst (bv _)) (nX (zc (c .z9 rfl) rfl (af (rv 1) (ra1 (nZ rfl Y.K6 Y.Rp))))))))
theorem oX:RR P w Y base k .p7 (dM (F k)):=rz P w Y G GL GG GZ fun _ _ _ _ _ _ _ hr hu hN n c d zx O N_ oh=>(zr (jf (V3 (n .isinstance) (n .int) (rv 1)) (jf (Hb (V3 (n .isinstance) (n .bool) (rv 1))) (nX (zc (c .o9 rfl) rfl (ra1 (rv 1)))))))
theorem tQ:RR P w Y base k .m_ (dh (F k)):=rz P w Y G GL GG GZ fun _ _ _ _ _ _ _ hr hu hN n c d zx O N_ oh=>(ah (bg (eQ (df (nj (xI P w Y G) (rv 0) hr (ra1 (rv 1))))) (aC eI) aM)
  (zr (nj (uX P w Y G) (rv 0) hr (ra1 (rv 1)))))
theorem mH:RR P w Y base k .o8 (cG (F k)):=rz P w Y G GL GG GZ fun _ _ _ _ _ _ _ hr hu hN n c d zx O N_ oh=>(ah (bJ hN (tK rfl (n .dict) (ra1 (aH hu (rv 2) ai))))
  (ah (mX hu (rv 3) (rv 0) (rv 1))
  (zr (aD (af (tJ (rv 3)) (ra1 (aH hu (rv 2) ai)))))))
theorem rK:RR P w Y base k .z9 (dr (F k)):=rz P w Y G GL GG GZ fun _ _ _ _ _ _ _ hr hu hN n c d zx O N_ oh=>(ah (dU PassesOwn.never rfl (iA (rv 0)) (aU hN rfl (Or.inl rfl)) (aC (bg (bU (hX hu) gj (rv 2) (rv 1) (by with_unfolding_all rfl)) (zr je) aM)))
  (zr je))
theorem yi:RR P w Y base k .K1 (ie (F k)):=rz P w Y G GL GG GZ fun _ _ _ _ _ _ _ hr hu hN n c d zx O N_ oh=>(ah (bg (RW.rt (zM (eQ (df (V3 (n .isinstance) (n .str) (rv 0)))) (vw (eQ (zN xl cw xl cw ai (zl (n .len) (rv 0)) (gh rfl Y.I_ Y.QC)))))) (zr je) aM)
  (zr (jf (zc (c .z9 rfl) rfl (af (rv 0) (ra1 (nZ rfl Y.G9 Y.Qs)))) (nX (gO (hX hu) gj (rv 0) (zY rfl Y.G_ Y.G8) (by with_unfolding_all rfl))))))
theorem Dh:RR P w Y base k .found (fQ (F k)):=rz P w Y G GL GG GZ fun _ _ _ _ _ _ _ hr hu hN n c d zx O N_ oh=>(ah (bJ hN (rv 0))
  (ah (dU PassesOwn.never rfl (iA (rv 1)) (aU hN rfl (Or.inl rfl)) (ah (bg (RW.rt (zM (eQ (df (V3 (n .isinstance) (n .dict) (rv 2)))) (vw (bU (hX hu) gj (rv 3) (rv 2) (by with_unfolding_all rfl))))) (zr (aD jg)) aM)
  (aC (bJ hN (aH hu (rv 2) (rv 3))))))
  (zr (aD (ra1 (rv 2))))))
theorem mK:RR P w Y base k .k_ (cJ (F k)):=rz P w Y G GL GG GZ fun _ _ _ _ _ _ _ hr hu hN n c d zx O N_ oh=>(zr (rv 1))
theorem kT:RR P w Y base k .j8 (cy (F k)):=rz P w Y G GL GG GZ fun _ _ _ _ _ _ _ hr hu hN n c d zx O N_ oh=>(zr (rG rfl (n .str) (ra1 (rv 1))))
end
theorem Fu(Y:Sys K mg):All P w Y base 0:=fun f=>⟨fun vs H Q E h=>(by obtain⟨_,_,_,_,_,_,e,_⟩:=h;cases e),fun A outer s H args us vs Q E _ _ _ _ h=>(by obtain⟨_,_,_,_,_,_,e,_⟩:=h;cases e)⟩
theorem nlL(Y:Sys K mg){k:Nat}{ad:Addr}{fd:FuncData}{ps:List Str}{n:Nat}:bK P w K mg base QX k ad fd ps (Rz K Y.tab n fun _ _=>.bad):=⟨fun vs H Q E h=>by obtain⟨_,_,_,_,_,_,_,e⟩:=h;exact e.elim,fun A outer s H args us vs Q E _ _ _ _ h=>by obtain⟨_,_,_,_,_,_,_,e⟩:=h;exact e.elim⟩
theorem Ce(Y:Sys K mg):sN P w Y base 0:=fun f=>nlL P w Y
theorem Cc(Y:Sys K mg){k:Nat}(G:All P w Y base k)(GL:sN P w Y base k)(GG:pM P w Y base k)(GZ:wz P w Y base k):All P w Y base (k+1):=fun f=>by
  cases f with
  |law=>exact fp P w Y (Ku P w Y G GL GG GZ)
  |J6=>exact fp P w Y (yf P w Y G GL GG GZ)
  |Om=>exact fp P w Y (Af P w Y G GL GG GZ)
  |O9=>exact fp P w Y (Dg P w Y G GL GG GZ)
  |written=>exact fp P w Y (ye P w Y G GL GG GZ)
  |A_=>exact fp P w Y (tO P w Y G GL GG GZ)
  |z_=>exact fp P w Y (oW P w Y G GL GG GZ)
  |u9=>exact fp P w Y (mJ P w Y G GL GG GZ)
  |is_value=>exact fp P w Y (vA P w Y G GL GG GZ)
  |n_=>exact fp P w Y (kR P w Y G GL GG GZ)
  |m7=>exact fp P w Y (tN P w Y G GL GG GZ)
  |v8=>exact fp P w Y (og P w Y G GL GG GZ)
  |u6=>exact fp P w Y (mI P w Y G GL GG GZ)
  |J_=>exact fp P w Y (yh P w Y G GL GG GZ)
  |o9=>exact fp P w Y (kS P w Y G GL GG GZ)
  |q_=>exact fp P w Y (ko P w Y G GL GG GZ)
  |j_=>exact fp P w Y (jS P w Y G GL GG GZ)
  |OD=>exact fp P w Y (Ac P w Y G GL GG GZ)
  |v9=>exact fp P w Y (tP P w Y G GL GG GZ)
  |p7=>exact fp P w Y (oX P w Y G GL GG GZ)
  |m_=>exact fp P w Y (tQ P w Y G GL GG GZ)
  |o8=>exact fp P w Y (mH P w Y G GL GG GZ)
  |z9=>exact fp P w Y (rK P w Y G GL GG GZ)
  |K1=>exact fp P w Y (yi P w Y G GL GG GZ)
  |found=>exact fp P w Y (Dh P w Y G GL GG GZ)
  |k_=>exact fp P w Y (mK P w Y G GL GG GZ)
  |j8=>exact fp P w Y (kT P w Y G GL GG GZ)
  |_=>exact⟨fun vs H Q E h=>(by obtain⟨_,_,_,_,_,_,e,_⟩:=h;cases e),fun A outer s H args us vs Q E _ _ _ _ h=>(by obtain⟨_,_,_,_,_,_,e,_⟩:=h;cases e)⟩
theorem zm(Y:Sys K mg){k:Nat}(G:All P w Y base k)(GL:sN P w Y base k)(GG:pM P w Y base k)(GZ:wz P w Y base k):sN P w Y base (k+1):=fun f=>by
  cases f with
  |K5=>exact fl P w Y (yg P w Y G GL GG GZ)
  |G3=>exact fl P w Y (Ae P w Y G GL GG GZ)
  |_=>exact nlL P w Y
theorem nlG(Y:Sys K mg){k:Nat}{ad:Addr}{fd:FuncData}{ps:List Str}{n:Nat}:bK P w K mg base (PB P w) k ad fd ps (Rz K Y.tab n fun _ _=>.bad):=⟨fun vs H Q E h=>by obtain⟨_,_,_,_,_,_,_,e⟩:=h;exact e.elim,fun A outer s H args us vs Q E _ _ _ _ h=>by obtain⟨_,_,_,_,_,_,_,e⟩:=h;exact e.elim⟩
theorem zn(Y:Sys K mg){k:Nat}(G:All P w Y base k)(GL:sN P w Y base k)(GG:pM P w Y base k):pM P w Y base (k+1):=fun f=>by
  cases f with
  |i_=>exact fi P w Y (kh P w Y G GL GG)
  |f9=>exact fh P w Y (ir P w Y G GL GG)
  |b_=>exact fh P w Y (iV P w Y G GL GG)
  |d7=>exact fh P w Y (iw P w Y G GL GG)
  |j9=>exact fi P w Y (mF P w Y G GL GG)
  |d8=>exact fh P w Y (jd P w Y G GL GG)
  |o7=>exact fh P w Y (rA P w Y G GL GG)
  |w6=>exact fh P w Y (vt P w Y G GL GG)
  |d9=>exact fh P w Y (iq P w Y G GL GG)
  |h_=>exact fh P w Y (jQ P w Y G GL GG)
  |g_=>exact fh P w Y (jR P w Y G GL GG)
  |j4=>exact fh P w Y (ki P w Y G GL GG)
  |j5=>exact fh P w Y (kj P w Y G GL GG)
  |t_=>exact fh P w Y (kJ P w Y G GL GG)
  |j6=>exact fh P w Y (lR P w Y G GL GG)
  |_=>exact nlG P w Y
theorem zj(Y:Sys K mg){k:Nat}:wz P w Y base (k+1):=fun f hf=>by
  cases f with
  |d7=>exact fz P w Y (iB P w Y)
  |_=>cases hf
theorem Cd(Y:Sys K mg):wz P w Y base 0:=fun f hf=>⟨fun vs H Q E h=>by obtain⟨_,_,_,_,_,_,_,e⟩:=h;exact e.elim,fun A outer s H args us vs Q E _ _ _ _ h=>by obtain⟨_,_,_,_,_,_,_,e⟩:=h;exact e.elim⟩
theorem xG(Y:Sys K mg):∀k,All P w Y base k∧sN P w Y base k∧pM P w Y base k∧wz P w Y base k
 |0=>⟨Fu P w Y,Ce P w Y,fun f=>nlG P w Y,Cd P w Y⟩
 |k+1=>by obtain⟨a,b,d,z⟩:=xG Y k;exact⟨Cc P w Y a b d z,zm P w Y a b d z,zn P w Y a b d,zj P w Y⟩
theorem oP(Y:Sys K mg)(k:Nat):All P w Y base k:=(xG P w Y k).1
end
def adP(K:W.Frag)(C:Nat→Addr):Fn→Addr→Prop
 |.i_,a=>W.findIn K (.ref (C 601)) "__init__"=some (some (.ref a))∧W.isFn K (.ref a)=true∧W.keepIn K (.ref a)=true
 |.f9,a=>W.findIn K (.ref (C 600)) "outcome_written"=some (some (.ref a))∧W.isFn K (.ref a)=true∧W.keepIn K (.ref a)=true
 |.b_,a=>W.findIn K (.ref (C 601)) "write_nodes"=some (some (.ref a))∧W.isFn K (.ref a)=true∧W.keepIn K (.ref a)=true
 |.d7,a=>W.findIn K (.ref (C 600)) "outcome_refused"=some (some (.ref a))∧W.isFn K (.ref a)=true∧W.keepIn K (.ref a)=true
 |.j9,a=>W.findIn K (.ref (C 600)) "__init__"=some (some (.ref a))∧W.isFn K (.ref a)=true∧W.keepIn K (.ref a)=true
 |.d8,a=>W.findIn K (.ref (C 601)) "write_node"=some (some (.ref a))∧W.isFn K (.ref a)=true∧W.keepIn K (.ref a)=true
 |.o7,a=>W.findIn K (.ref (C 600)) "write"=some (some (.ref a))∧W.isFn K (.ref a)=true∧W.keepIn K (.ref a)=true
 |.w6,a=>W.findIn K (.ref (C 600)) "put"=some (some (.ref a))∧W.isFn K (.ref a)=true∧W.keepIn K (.ref a)=true
 |.d9,a=>W.findIn K (.ref (C 601)) "write_rounds"=some (some (.ref a))∧W.isFn K (.ref a)=true∧W.keepIn K (.ref a)=true
 |.h_,a=>W.findIn K (.ref (C 600)) "truth_wanted"=some (some (.ref a))∧W.isFn K (.ref a)=true∧W.keepIn K (.ref a)=true
 |.g_,a=>W.findIn K (.ref (C 600)) "thing_wanted"=some (some (.ref a))∧W.isFn K (.ref a)=true∧W.keepIn K (.ref a)=true
 |.v9,a=>W.findIn K (.ref (C 0)) "fits"=some (some (.ref a))∧W.isFn K (.ref a)=true∧W.keepIn K (.ref a)=true
 |.p7,a=>W.findIn K (.ref (C 1)) "fits"=some (some (.ref a))∧W.isFn K (.ref a)=true∧W.keepIn K (.ref a)=true
 |.j7,a=>W.findIn K (.ref (C 500)) "__init__"=some (some (.ref a))∧W.isFn K (.ref a)=true∧W.keepIn K (.ref a)=true
 |.m_,a=>W.findIn K (.ref (C 0)) "coded"=some (some (.ref a))∧W.findIn K (.ref (C 1)) "coded"=some (some (.ref a))∧W.isFn K (.ref a)=true∧W.keepIn K (.ref a)=true
 |.j4,a=>W.findIn K (.ref (C 600)) "list_wanted"=some (some (.ref a))∧W.isFn K (.ref a)=true∧W.keepIn K (.ref a)=true
 |.j5,a=>W.findIn K (.ref (C 600)) "begin_round"=some (some (.ref a))∧W.isFn K (.ref a)=true∧W.keepIn K (.ref a)=true
 |.j6,a=>W.findIn K (.ref (C 600)) "count_one"=some (some (.ref a))∧W.isFn K (.ref a)=true∧W.keepIn K (.ref a)=true
 |.k_,a=>W.findIn K (.ref (C 0)) "spelling"=some (some (.ref a))∧W.isFn K (.ref a)=true∧W.keepIn K (.ref a)=true
 |.j8,a=>W.findIn K (.ref (C 1)) "spelling"=some (some (.ref a))∧W.isFn K (.ref a)=true∧W.keepIn K (.ref a)=true
 |f,a=>W.nsIn K mainGlobals (iI f)=some (some (.ref a))
theorem us0{us:List Value}(h:us.length=0):us= []:=List.eq_nil_of_length_eq_zero h
theorem XR{n:Nat}{us:List Value}(h:us.length=n+1):∃a r,us=a::r∧r.length=n:=by
 cases us with
 |nil=>cases h
 |cons a r=>exact⟨a,r,rfl,by simpa using h⟩
theorem us1{us:List Value}(h:us.length=1):∃a,us= [a]:=by obtain⟨a,r,rfl,z⟩:=XR h;obtain rfl:=us0 z;exact⟨a,rfl⟩
theorem us2{us:List Value}(h:us.length=2):∃a b,us= [a,b]:=by obtain⟨a,r,rfl,z⟩:=XR h;obtain⟨b,rfl⟩:=us1 z;exact⟨a,b,rfl⟩
theorem us3{us:List Value}(h:us.length=3):∃a b c,us= [a,b,c]:=by obtain⟨a,r,rfl,z⟩:=XR h;obtain⟨b,c,rfl⟩:=us2 z;exact⟨a,b,c,rfl⟩
theorem us4{us:List Value}(h:us.length=4):∃a b c d,us= [a,b,c,d]:=by obtain⟨a,r,rfl,z⟩:=XR h;obtain⟨b,c,d,rfl⟩:=us3 z;exact⟨a,b,c,d,rfl⟩
theorem us5{us:List Value}(h:us.length=5):∃a b c d e,us= [a,b,c,d,e]:=by obtain⟨a,r,rfl,z⟩:=XR h;obtain⟨b,c,d,e,rfl⟩:=us4 z;exact⟨a,b,c,d,e,rfl⟩
theorem us6{us:List Value}(h:us.length=6):∃a b c d e f,us= [a,b,c,d,e,f]:=by obtain⟨a,r,rfl,z⟩:=XR h;obtain⟨b,c,d,e,f,rfl⟩:=us5 z;exact⟨a,b,c,d,e,f,rfl⟩
theorem us7{us:List Value}(h:us.length=7):∃a b c d e f g,us= [a,b,c,d,e,f,g]:=by obtain⟨a,r,rfl,z⟩:=XR h;obtain⟨b,c,d,e,f,g,rfl⟩:=us6 z;exact⟨a,b,c,d,e,f,g,rfl⟩
theorem fq{K:W.Frag}{Ad:Addr→Prop}{nm ql:Str}{st:Stmt}{ps:List Str}{f:Addr}{od an:Option Addr}{sl:Array (Option Value)}{oc kV dc pm cd ct:Value}(a:Ad f)(l:K.lookup f=some ⟨oc,od,.func (W.fnOf nm ql (jN st) (bV st) (aG st) .none kV dc pm an cd ct),sl⟩)(c:W.codeIn K cd ql=true)(k:W.keepIn K (.ref f)=true)(b:∀(kV doc pm:Value)(an:Option Addr)(E_ ct:Value)(us:List Value),us.length=ps.length→bindArgs (W.fnOf nm ql (jN st) (bV st) (aG st) .none kV doc pm an E_ ct) ⟨us,[]⟩=pure (ps.zip us)):∃a fd,Ad a∧Vp K nm ql st a fd∧bC K fd ps []:=⟨f,_,a,BA l c k,(BA l c k).binds b⟩
theorem Jz{l:W.OpenLaw}{w:World}{K:W.Frag}{h:Heap}{mg:Str→Option Value}{fa:Addr}(abA:∀ns:List Int,ns.length≤63→F 70 .law [.Q8 (ns.map PV.int)]=.ok (.bl true))(X:K.In h)(G:h.Ns mainGlobals mg)(hfa:mg "law"=some (.ref fa))
  {Qf:Addr}
  {K_:Addr}
  {QK:Addr}
  {K4:Addr}
  {G6:Addr}
  {Qz:Tok}
  {Rn:Tok}
  {Q0:Tok}
  {Qy:Tok}
  {Rm:Tok}
  {QZ:Tok}
  {PX:Tok}
  {TF:Tok}
  {O1:Tok}
  {Qp:Tok}
  {O5:Addr} {Sh:Nat} {RD:Array (Option Value)} {RQ:Option Addr} {Oh:Tok} {Og:Tok} {Oe:Tok} {Od:Tok} {N8:Tok} {N7:Tok} {N6:Tok} {N5:Tok} {M_:Tok} {M9:Tok} {M4:Tok}
  (Ub:W.nsIn K mainGlobals "Word"=some (some (.ref Qf)))
  (TX:W.plainGet K Qf Str.empty=true)
  (T7:W.hasDictIn K Qf=true)
  (TV:W.plainOver K Qf=true)
  (TJ:W.findIn K (.ref Qf) "__setattr__"=some (some (.builtin "object.__setattr__")))
  (QL:W.makesIn K Qf=true)
  (QS:W.findIn K (.ref Qf) "__init__"=some (some (.builtin "object.__init__")))
  (QM:W.keepIn K (.ref Qf)=true)
  (R_:W.nsIn K mainGlobals "Number"=some (some (.ref K_)))
  (RP:W.plainGet K K_ Str.empty=true)
  (R8:W.hasDictIn K K_=true)
  (RM:W.plainOver K K_=true)
  (RK:W.findIn K (.ref K_) "__setattr__"=some (some (.builtin "object.__setattr__")))
  (Pg:W.makesIn K K_=true)
  (Pj:W.findIn K (.ref K_) "__init__"=some (some (.builtin "object.__init__")))
  (Ph:W.keepIn K (.ref K_)=true)
  (Vo:W.nsIn K mainGlobals "Pen"=some (some (.ref QK)))
  (Vf:W.plainGet K QK Str.empty=true)
  (Vl:W.hasDictIn K QK=true)
  (Ve:W.plainOver K QK=true)
  (Va:W.findIn K (.ref QK) "__setattr__"=some (some (.builtin "object.__setattr__")))
  (Vg:W.makesIn K QK=true)
  (Vi:W.keepIn K (.ref QK)=true)
  (Qq:W.findIn K (.ref QK) "parts"=some none)
  (Pu:W.findIn K (.ref QK) "counted"=some none)
  (R9:W.nsIn K mainGlobals "Writer"=some (some (.ref K4)))
  (RN:W.plainGet K K4 Str.empty=true)
  (R7:W.hasDictIn K K4=true)
  (RL:W.plainOver K K4=true)
  (RJ:W.findIn K (.ref K4) "__setattr__"=some (some (.builtin "object.__setattr__")))
  (RV:W.makesIn K K4=true)
  (RZ:W.keepIn K (.ref K4)=true)
  (Qe:W.findIn K (.ref K4) "pen"=some none)
  (Ot:W.findIn K (.ref K4) "pieces"=some none)
  (Rk:W.nsIn K mainGlobals "Refused"=some (some (.ref G6)))
  (Qw:W.findIn K (.ref G6) "__getattribute__"=some (some (.builtin "BaseException.__getattribute__")))
  (Qv:W.findIn K (.ref G6) "__getattr__"=some none)
  (Qu:W.mroIn K G6 (.type "BaseException")=some true)
  (D_:W.exmOne K (.ref G6) (.ref G6)=some true)
  (Rg:nJ K G6 [.type "Exception",.type "BaseException",.type "object"] "Exception.__new__"=true)
  (Rf:W.keepIn K (.ref G6)=true)
  (Rb:GA K G6=true)
  (Ra:W.findIn K (.ref G6) "__setattr__"=some (some (.builtin "object.__setattr__")))
  (Q_:W.findIn K (.ref G6) "word"=some none)
  (Q9:W.hasDictIn K G6=true)
  (hf:∀f:Fn,∃a fd,adP K (fun i=>match i with|0=>Qf|1=>K_|600=>QK|601=>K4|500=>G6|_=>0) f a∧Vp K (iI f) (rN f) (ke f) a fd∧bC K fd (eD f) [])
  (J2:W.nsIn K mainGlobals "MOST_COUNTED"=some (some (.int 2000 Qz)))
  (K8:W.nsIn K mainGlobals "MOST_DEPTH"=some (some (.int 6 Rn)))
  (J9:W.nsIn K mainGlobals "MOST_FIELDS"=some (some (.int 8 Q0)))
  (I_:W.nsIn K mainGlobals "MOST_LETTERS"=some (some (.int 8 Qy)))
  (K7:W.nsIn K mainGlobals "MOST_SIGNS"=some (some (.int 400 Rm)))
  (J7:W.nsIn K mainGlobals "MOST_THINGS"=some (some (.int 40 QZ)))
  (G5:W.nsIn K mainGlobals "MOST_WORD_SIGNS"=some (some (.int 40 PX)))
  (QT:W.nsIn K mainGlobals "SIGNS"=some (some (.str "\n !\"#$&'()*+,-./0123456789:;<=>?@ABCDEFGHIJKLMNOPQRSTUVWXYZ[\\]^_`abcdefghijklmnopqrstuvwxyz{|}~" TF)))
  (G9:W.nsIn K mainGlobals "SMALL_LETTERS"=some (some (.str "abcdefghijklmnopqrstuvwxyz" O1)))
  (K6:W.nsIn K mainGlobals "WORD_SIGNS"=some (some (.str "0123456789ABCDEFGHIJKLMNOPQRSTUVWXYZabcdefghijklmnopqrstuvwxyz" Qp)))
  (G_:W.nsIn K mainGlobals "COMMAND_WORDS"=some (some (.ref O5)))
  (G8:K.lookup O5=some ⟨.type "tuple",RQ,.seq #[.str "as" Oh,.str "between" Og,.str "body" Oe,.str "else" Od,.str "end" N8,.str "for" N7,.str "if" N6,.str "in" N5,.str "piece" M_,.str "use" M9,.str "with" M4] Sh,RD⟩)
  (hn:∀i:Nt,W.nsIn K mainGlobals (DZ i)=some none):
  ∃fd:FuncData,(∀(s:Shared)(v:Value),BindsTo s fd ⟨[v],[]⟩ [("_law_script",v)])∧∀base:Heap,K.In base→base.Ns mainGlobals mg→bK l.prog w K mg base QX (dl 70) fa fd ["_law_script"] (wR K):=by
 let Y:Sys K mg:={
  adr:=fun f=>(hf f).choose
  fd:=fun f=>(hf f).choose_spec.choose
  ok:=fun f=>(hf f).choose_spec.choose_spec.2.1
  bi:=fun f=>(hf f).choose_spec.choose_spec.2.2
  m:=fun f hp=>W.mg_of X G (by have q:=(hf f).choose_spec.choose_spec.1;cases f<;>first|exact q|cases hp)
  n:=fun i=>W.mg_none_of X G (hn i)
  O_:=fun i=>match i with|0=>Qf|1=>K_|500=>G6|600=>QK|601=>K4|_=>0
  M6:=W.mg_of X G Rk
  D_:=D_
  L_:=⟨.inr Rg,(hf .j7).choose_spec.choose_spec.1.1,(hf .j7).choose_spec.choose_spec.1.2.1,Rf,Rb,Ra,Q_,Q9,⟨Qw,Qv,Qu⟩⟩
  Pr:=_
  J2:=W.mg_of X G J2
  QD:=⟨Qz,by rfl⟩
  Qo:=_
  K8:=W.mg_of X G K8
  Rr:=⟨Rn,by rfl⟩
  Qa:=_
  J9:=W.mg_of X G J9
  Q6:=⟨Q0,by rfl⟩
  Pk:=_
  I_:=W.mg_of X G I_
  QC:=⟨Qy,by rfl⟩
  Qn:=_
  K7:=W.mg_of X G K7
  Rq:=⟨Rm,by rfl⟩
  P_:=_
  J7:=W.mg_of X G J7
  Q5:=⟨QZ,by rfl⟩
  M8:=_
  G5:=W.mg_of X G G5
  P0:=⟨PX,by rfl⟩
  Tz:=_
  QT:=W.mg_of X G QT
  Vt:=⟨TF,by exact congrArg (fun z=>Value.str z TF) (by kernel_rfl)⟩
  OJ:=_
  G9:=W.mg_of X G G9
  Qs:=⟨O1,by exact congrArg (fun z=>Value.str z O1) (by kernel_rfl)⟩
  Qm:=_
  K6:=W.mg_of X G K6
  Rp:=⟨Qp,by exact congrArg (fun z=>Value.str z Qp) (by kernel_rfl)⟩
  O3:=O5
  G_:=W.mg_of X G G_
  G8:=⟨_,_,_,G8,rfl,rfl,by show 11≤sizeLine;decide,(.cons ⟨Oh,congrArg (fun z=>Value.str z Oh) (by kernel_rfl)⟩ (.cons ⟨Og,congrArg (fun z=>Value.str z Og) (by kernel_rfl)⟩ (.cons ⟨Oe,congrArg (fun z=>Value.str z Oe) (by kernel_rfl)⟩ (.cons ⟨Od,congrArg (fun z=>Value.str z Od) (by kernel_rfl)⟩ (.cons ⟨N8,congrArg (fun z=>Value.str z N8) (by kernel_rfl)⟩ (.cons ⟨N7,congrArg (fun z=>Value.str z N7) (by kernel_rfl)⟩ (.cons ⟨N6,congrArg (fun z=>Value.str z N6) (by kernel_rfl)⟩ (.cons ⟨N5,congrArg (fun z=>Value.str z N5) (by kernel_rfl)⟩ (.cons ⟨M_,congrArg (fun z=>Value.str z M_) (by kernel_rfl)⟩ (.cons ⟨M9,congrArg (fun z=>Value.str z M9) (by kernel_rfl)⟩ (.cons ⟨M4,congrArg (fun z=>Value.str z M4) (by kernel_rfl)⟩ .nil)))))))))))⟩
  Wy:=⟨Vf,Vl,Ve,Va⟩
  Wj:=W.mg_of X G Vo
  Wh:=fun f hf=>by
   simp only[Sv,List.mem_cons,List.not_mem_nil,or_false]at hf;rcases hf with rfl|rfl
   ·exact Qq
   ·exact Pu
  Wi:=⟨Vg,(hf .j9).choose_spec.choose_spec.1.1,(hf .j9).choose_spec.choose_spec.1.2.1,Vi⟩
  Ol:=⟨(hf .f9).choose_spec.choose_spec.1.1,(hf .f9).choose_spec.choose_spec.1.2.1,(hf .f9).choose_spec.choose_spec.1.2.2⟩
  J5:=⟨(hf .d7).choose_spec.choose_spec.1.1,(hf .d7).choose_spec.choose_spec.1.2.1,(hf .d7).choose_spec.choose_spec.1.2.2⟩
  Ru:=⟨(hf .o7).choose_spec.choose_spec.1.1,(hf .o7).choose_spec.choose_spec.1.2.1,(hf .o7).choose_spec.choose_spec.1.2.2⟩
  SM:=⟨(hf .w6).choose_spec.choose_spec.1.1,(hf .w6).choose_spec.choose_spec.1.2.1,(hf .w6).choose_spec.choose_spec.1.2.2⟩
  O7:=⟨(hf .h_).choose_spec.choose_spec.1.1,(hf .h_).choose_spec.choose_spec.1.2.1,(hf .h_).choose_spec.choose_spec.1.2.2⟩
  O8:=⟨(hf .g_).choose_spec.choose_spec.1.1,(hf .g_).choose_spec.choose_spec.1.2.1,(hf .g_).choose_spec.choose_spec.1.2.2⟩
  Px:=⟨(hf .j4).choose_spec.choose_spec.1.1,(hf .j4).choose_spec.choose_spec.1.2.1,(hf .j4).choose_spec.choose_spec.1.2.2⟩
  Py:=⟨(hf .j5).choose_spec.choose_spec.1.1,(hf .j5).choose_spec.choose_spec.1.2.1,(hf .j5).choose_spec.choose_spec.1.2.2⟩
  Qh:=⟨(hf .j6).choose_spec.choose_spec.1.1,(hf .j6).choose_spec.choose_spec.1.2.1,(hf .j6).choose_spec.choose_spec.1.2.2⟩
  Tt:=⟨RN,R7,RL,RJ⟩
  Tp:=W.mg_of X G R9
  Tj:=fun f hf=>by
   simp only[Sv,List.mem_cons,List.not_mem_nil,or_false]at hf;rcases hf with rfl|rfl
   ·exact Qe
   ·exact Ot
  Tn:=⟨RV,(hf .i_).choose_spec.choose_spec.1.1,(hf .i_).choose_spec.choose_spec.1.2.1,RZ⟩
  Oo:=⟨(hf .b_).choose_spec.choose_spec.1.1,(hf .b_).choose_spec.choose_spec.1.2.1,(hf .b_).choose_spec.choose_spec.1.2.2⟩
  Ow:=⟨(hf .d8).choose_spec.choose_spec.1.1,(hf .d8).choose_spec.choose_spec.1.2.1,(hf .d8).choose_spec.choose_spec.1.2.2⟩
  Oj:=⟨(hf .d9).choose_spec.choose_spec.1.1,(hf .d9).choose_spec.choose_spec.1.2.1,(hf .d9).choose_spec.choose_spec.1.2.2⟩
  Sw:=⟨TX,T7,TV,TJ⟩
  QL:=QL
  QS:=QS
  QM:=QM
  Vv:=W.mg_of X G Ub
  Q7:=⟨(hf .m_).choose_spec.choose_spec.1.1,(hf .m_).choose_spec.choose_spec.1.2.2.1,(hf .m_).choose_spec.choose_spec.1.2.2.2⟩
  Rt:=⟨(hf .v9).choose_spec.choose_spec.1.1,(hf .v9).choose_spec.choose_spec.1.2.1,(hf .v9).choose_spec.choose_spec.1.2.2⟩
  Qg:=⟨(hf .k_).choose_spec.choose_spec.1.1,(hf .k_).choose_spec.choose_spec.1.2.1,(hf .k_).choose_spec.choose_spec.1.2.2⟩
  QV:=⟨RP,R8,RM,RK⟩
  Pg:=Pg
  Pj:=Pj
  Ph:=Ph
  Tq:=W.mg_of X G R_
  Qt:=⟨(hf .m_).choose_spec.choose_spec.1.2.1,(hf .m_).choose_spec.choose_spec.1.2.2.1,(hf .m_).choose_spec.choose_spec.1.2.2.2⟩
  QF:=⟨(hf .p7).choose_spec.choose_spec.1.1,(hf .p7).choose_spec.choose_spec.1.2.1,(hf .p7).choose_spec.choose_spec.1.2.2⟩
  Pz:=⟨(hf .j8).choose_spec.choose_spec.1.1,(hf .j8).choose_spec.choose_spec.1.2.1,(hf .j8).choose_spec.choose_spec.1.2.2⟩ }
 have e:=(Y.m .law rfl).symm.trans hfa;obtain rfl:Y.adr .law=fa:=by injection e with e1;injection e1
 exact⟨Y.fd .law,fun s v=>by obtain⟨_,_,_,_,_,_,_,_,_,e,_⟩:=(Y.ok .law).ex;rw[e];exact .of_eq rfl,fun base _ _=>(oP l.prog w Y 70 .law).imp (xP abA)⟩
end U3
namespace L3
open PySem L2
section
variable(ρ:Ev)(h:List PO)
theorem NM(v:PV):cK v ρ h=.ok v h:=rfl
theorem Jd:ak ρ h=.ok [] h:=rfl
theorem BJ:jZ ρ h=.ok none h:=rfl
theorem Fc(res:Nat→Option (List PV→Out))(o:Ex)(as:Ax):qO res o as ρ h=(o ρ h).bind fun p h1=>match p with|.ins C []=>(match res C with|some fn=>(as ρ h1).bind fun ps h2=>bR fn (.ins C []::ps) h2|none=>.bad)|_=>.bad:=rfl
theorem Fa:cU ρ h=.nx ρ h:=rfl
@[simp] theorem EZ(f g:Sx):aI f g ρ h=match f ρ h with|.nx ρ1 h1=>g ρ1 h1|.rt v h1=>.rt v h1|.bk ρ1 h1=>.bk ρ1 h1|.ct ρ1 h1=>.ct ρ1 h1|.exc v h1=>.exc v h1|.bad=>.bad:=rfl
theorem yX:gc ρ h=.bad:=rfl
theorem BK(g:Gx)(body:Sx):bD g body [] ρ h=.nx ρ h:=rfl
theorem Je(i:Nat)(p:PV):PL i p ρ=some (ρ.set i (some p)):=rfl
end
theorem Fd(g:Gx)(body:Sx)(p:PV)(r:List PV)(ρ:Ev)(h:List PO):bD g body (p::r) ρ h=match g p ρ with
  |some ρ1=>(match body ρ1 h with
   |.nx ρ2 h2=>bD g body r ρ2 h2
   |.ct ρ2 h2=>bD g body r ρ2 h2
   |.bk ρ2 h2=>.nx ρ2 h2
   |.rt v h2=>.rt v h2
   |.exc v h2=>.exc v h2
   |.bad=>.bad)
  |none=>.bad:=rfl
section
variable(h:List PO)
theorem Jq(i:Int):ao h (.int i)=.int i:=rfl
theorem LV(i:Bool):ao h (.bl i)=.bl i:=rfl
theorem Jn(i:List Nat):ao h (.str i)=.str i:=rfl
theorem Jo:ao h .non=.non:=rfl
theorem Jm(i:List PV):ao h (.tup i)=.tup i:=rfl
theorem Jp(i:List PV):ao h (.lst i)=.lst i:=rfl
theorem Js(i:List PV):ao h (.Q8 i)= .Q8 i:=rfl
theorem Ju(i:List (PK×PV)):ao h (.dct i)=.dct i:=rfl
theorem Jr(c:Nat)(i:List (Str×PV)):ao h (.ins c i)=.ins c i:=rfl
theorem Fh(xs:List PV)(r:List PO):ao (.lst xs::r) (.ref 0)=.ref 0:=rfl
@[simp] theorem JA(a b:List PV):AS (.lst a) (.lst b) h=if a.length+b.length≤sizeLine then .ok (.lst (a++b)) h else .bad:=rfl
theorem GM(i j:Int):tY (.int i) (.int j) h=.ok (.int (i - j)) h:=rfl
theorem HZ(i j:Int):iH (.int i) (.int j) h=if jU i j=true then .ok (.int (i * j)) h else .bad:=rfl
@[simp] theorem Bb(a:List Nat)(k:Int):iH (.str a) (.int k) h=if Ua 1048576 k=true∧a.length * k.toNat≤1048576 then .ok (.str (rE a k)) h else .bad:=rfl
theorem KS(C:Int→Int→Bool)(g:Int→Int→Int)(i j:Int):pI C g (.int i) (.int j) h=if C i j=true then .ok (.int (g i j)) h else .bad:=rfl
theorem KW(i:Int):oZ (.int i) h=.ok (.int (-i)) h:=rfl
theorem Jw(g:Int→Int→Bool)(i j:Int):yw g (.int i) (.int j) h=.ok (.bl (g i j)) h:=rfl
theorem Nv(p:PV):pIs p .non h=.ok (.bl (oB p)) h:=rfl
theorem LA(l:List Nat)(i:Int):B_ (.str l) (.int i) h=match QW l i with|some c=>if l.length≤sizeLine then .ok (.str [c]) h else .bad|none=>.bad:=rfl
@[simp] theorem LB(l:List PV)(i:Int):B_ (.lst l) (.int i) h=match QW l i with|some v=>.ok (ao h v) h|none=>.bad:=rfl
@[simp] theorem LC(l:List PV)(i:Int):B_ (.Q8 l) (.int i) h=match QW l i with|some v=>.ok (ao h v) h|none=>.bad:=rfl
theorem KZ(l:List Nat):gk [.str l] h=match(if l.length≤sizeLine then some l.length else none)with|some n=>.ok (.int n) h|none=>.bad:=rfl
theorem Ge(l:List PV):gk [.lst l] h=.ok (.int l.length) h:=rfl
@[simp] theorem Gf(l:List PV):gk [.Q8 l] h=.ok (.int l.length) h:=rfl
theorem Ib(ps:List PV):ph ps h=if ps.length≤sizeLine then .ok (.lst ps) h else .bad:=rfl
theorem Ei(ps:List PV):ji ps h=if ps.length≤sizeLine then .ok (.ref h.length) (h++ [.lst ps])else .bad:=rfl
theorem GD(ps:List PV):aV ps h=if ps.length≤sizeLine then .ok (.tup ps) h else .bad:=rfl
theorem HP(ps:List PV):Wg ps h=.ok (.lst ps) h:=rfl
theorem Ea(ps:List PV):Ed ps h=.ok (.ref h.length) (h++ [.lst ps]):=rfl
theorem LF(b:Bool):yu [.bl b] h=.ok (.int (if b then 1 else 0)) h:=rfl
theorem Md(i:Int):DN [.int i] h=.ok (.int (if i<0 then -i else i)) h:=rfl
theorem Kh(i:Int):yt [.int i] h=if i.natAbs.log2<1920 then .ok (.str (gN i)) h else .bad:=rfl
theorem CS(l:List Nat):iS (.str l) h=.ok (l.map fun c=>PV.str [c]) h:=rfl
theorem CQ(l:List PV):iS (.tup l) h=.ok l h:=rfl
theorem CT(l:List PV):iS (.lst l) h=.ok l h:=rfl
theorem EF(x:List Nat):lj h (.str x)=true:=rfl
theorem ER(i:Int):eL h (.int i)=some (.int i,h):=by simp[eL,PV.pure]
theorem IY(i:Bool):eL h (.bl i)=some (.bl i,h):=by simp[eL,PV.pure]
theorem EO(i:List Nat):eL h (.str i)=some (.str i,h):=by simp[eL,PV.pure]
theorem ES(c:Nat):eL h (.ins c [])=some (.ins c [],h):=by simp[eL,PV.pure,lT]
theorem BB:M7 [] h=some ([],h):=rfl
theorem yW(p:PV)(r:List PV):M7 (p::r) h=match eL h p with|some (q,h1)=>(match M7 r h1 with|some (qs,h2)=>some (q::qs,h2)|none=>none)|none=>none:=rfl
theorem AW(a b:List Nat):fJ (.str a) (.str b) h=.ok (.bl (!qA a b)) h:=rfl
theorem JT(b:Bool):qW h (.bl b)=some b:=rfl
theorem vU(l:List Nat):aR [.str l,.ty "str"] h=.ok (.bl true) h:=rfl
theorem vW(l:List Nat):aR [.str l,.ty "int"] h=.ok (.bl false) h:=rfl
theorem ut(l:List Nat):aR [.str l,.ty "bool"] h=.ok (.bl false) h:=rfl
theorem uq(l:List Nat):aR [.str l,.ty "list"] h=.ok (.bl false) h:=rfl
theorem ur(l:List Nat):aR [.str l,.ty "dict"] h=.ok (.bl false) h:=rfl
theorem vY(l:Int):aR [.int l,.ty "int"] h=.ok (.bl true) h:=rfl
theorem uw(l:Int):aR [.int l,.ty "bool"] h=.ok (.bl false) h:=rfl
theorem uA(l:Bool):aR [.bl l,.ty "bool"] h=.ok (.bl true) h:=rfl
theorem vX(l:List PV):aR [.lst l,.ty "int"] h=.ok (.bl false) h:=rfl
theorem uv(l:List PV):aR [.lst l,.ty "bool"] h=.ok (.bl false) h:=rfl
theorem uu(l:List PV):aR [.lst l,.ty "list"] h=.ok (.bl true) h:=rfl
theorem vZ(l:List (PK×PV)):aR [.dct l,.ty "int"] h=.ok (.bl false) h:=rfl
theorem uz(l:List (PK×PV)):aR [.dct l,.ty "bool"] h=.ok (.bl false) h:=rfl
theorem ux(l:List (PK×PV)):aR [.dct l,.ty "list"] h=.ok (.bl false) h:=rfl
theorem uy(l:List (PK×PV)):aR [.dct l,.ty "dict"] h=.ok (.bl true) h:=rfl
end
theorem szl:(sizeLine:Nat)=16777216:=by decide
theorem bX(fn:List PV→Out)(ps:List PV)(h:List PO):bR fn ps h=match M7 ps h with|some (qs,h2)=>(match fn qs with|.ok v=>.ok v h2|.bad=>.bad)|none=>.bad:=rfl
theorem rV{i j:Int}(h:Ua 18446744073709551616 j=true):jU i j=true:=by unfold jU;rw[h,Bool.true_or,Bool.or_true]
theorem Ia{i j:Int}(h:Ua 18446744073709551616 i=true):jU i j=true:=by unfold jU;rw[h,Bool.true_or]
theorem vF(a b:List Nat)(h:List PO)(ha:∀c∈a,c<1114112)(hb:∀c∈b,c<1114112):Pb (.str a) (.str b) h=.ok (.bl (decide (a=b))) h:=by
 have ok:∀l:List Nat,(∀c∈l,c<1114112)→Oq h (.str l)=true:=by intro l hl;unfold Oq Tc;simp only[toD,PyData.canLay0,PyData.depth];simp[PyData.strOk,S];exact hl
 unfold Pb;rw[if_pos ⟨ok a ha,ok b hb⟩]
 have e:PyData.eqv (Tc h (.str a)) (Tc h (.str b))=decide (a=b):=by
  show PyData.eqv (toD (.str a)) (toD (.str b))=_;simp only[toD,PyData.eqv]
  by_cases q:a=b
  ·subst q;simp
  ·have:¬ S a=S b:=fun z=>q (Cg z);simp[q,this]
 rw[e]
theorem BZ{α:Type}{xs:List α}{i:Int}(d:α)(h0:0≤i)(h1:i<(xs.length:Int)):QW xs i=some (xs.getD i.toNat d):=by refine di h0 ?_;rw[List.getD_eq_getElem?_getD,List.getElem?_eq_getElem (by omega)];rfl
theorem eK{α:Type}{xs:List α}{n:Nat}{d:α}(h:n<xs.length):xs.getD n d∈xs:=by rw[List.getD_eq_getElem?_getD,List.getElem?_eq_getElem h];exact List.getElem_mem h
theorem mh:∀ls:List (List Nat),dI [] ls=ls.flatten
 |[]=>rfl
 |[x]=>by simp[dI]
 |x::y::r=>by show x++ []++dI [] (y::r)=_;rw[mh (y::r),List.append_nil];rfl
theorem om{sep:List Nat}{q:PV}{ls:List (List Nat)}{h:List L3.PO}(e:Vh h q=some (ls.map PV.str))(hz:(ls.map (fun l=>l.length)).sum+ls.length * sep.length≤16777216):gK (.str sep) [q] h=.ok (.str (dI sep ls)) h:=by unfold gK;simp only[e,xN,hz,if_true]
theorem DM{ls:List (List Nat)}{h:List L3.PO}(hz:(ls.map (fun l=>l.length)).sum≤16777216):gK (.str []) [.lst (ls.map PV.str)] h=.ok (.str ls.flatten) h:=by rw[om (ls:=ls) rfl (by simpa using hz),mh]
theorem NQ(xs:List PV)(r:List L3.PO)(p:PV):cT (.ref 0) [p] (.lst xs::r)=if xs.length<sizeLine then .ok .non (.lst (xs++ [p])::r)else .bad:=rfl
theorem IU(xs:List PV)(r:List L3.PO):iT (.lst xs::r) (.ref 0)=true:=rfl
theorem HE(a b:Int)(h:List L3.PO):Pb (.int a) (.int b) h=.ok (.bl (decide (a=b))) h:=by
 have ok:∀l:Int,Oq h (.int l)=true:=fun l=>by unfold Oq Tc;simp[toD,PyData.canLay0,PyData.depth]
 unfold Pb;rw[if_pos ⟨ok a,ok b⟩]
 have e:PyData.eqv (Tc h (.int a)) (Tc h (.int b))=decide (a=b):=by
  show PyData.eqv (toD (.int a)) (toD (.int b))=_;simp only[toD,PyData.eqv]
  by_cases q:a=b<;>simp[q]
 rw[e]
theorem rT(a b:List Nat)(h:List L3.PO)(ha:∀c∈a,c<1114112)(hb:∀c∈b,c<1114112):Ti (.str a) (.str b) h=.ok (.bl (!decide (a=b))) h:=by
 have e:=vF a b h ha hb;unfold Pb at e;unfold Ti
 split at e
 ·rename_i hc;rw[if_pos hc];injection e with e1 e2
  injection e1 with e1
  rw[e1]
 ·cases e
def dig(n:Nat):List Nat:=(Nat.toDigits 10 n).map Char.toNat
theorem su(n:Nat):∀c∈dig n,48≤c∧c≤57:=by intro c hc;obtain⟨ch,h1,rfl⟩:=List.mem_map.mp hc;exact PyProof.Rows.digit_range (Nat.isDigit_of_mem_toDigits (by decide) (by decide) h1)
theorem wP(i:Int):gN i=if 0≤i then dig i.toNat else 45::dig (-i).toNat:=by
 unfold gN dig;rw[PyProof.Rows.signs_ofString,Int.toString_eq_repr,Int.repr_eq_if]
 split
 ·rw[Nat.toList_repr]
 ·rw[String.toList_append,List.map_append,Nat.toList_repr];rfl
variable{m:Nat}{raw aaz:List Nat}
open PySem.NumText (digitsVal AllDigits)
section
variable(h:List L3.PO)(ρ:Ev)
theorem CF(xs:List PV):rS [.lst xs] h=.ok (.tup xs) h:=rfl
end
theorem lX{l:List Nat}(h:List L3.PO)(hl:∀c∈l,c<1114112):Oq h (.str l)=true:=by unfold Oq Tc;simp only[toD,PyData.canLay0,PyData.depth];simp[PyData.strOk,S];exact hl
theorem Jf(a b:List Nat)(ha:∀c∈a,c<1114112)(hb:∀c∈b,c<1114112):PyData.eqv (toD (.str a)) (toD (.str b))=decide (a=b):=by
 have:=vF a b [] ha hb;unfold Pb at this;rw[if_pos ⟨lX [] ha,lX [] hb⟩]at this;injection this with this
 injection this
theorem sJ{x:List Nat}(hx:∀c∈x,c<1114112):∀{ls:List (List Nat)},(∀l∈ls,∀c∈l,c<1114112)→((ls.map PV.str).any fun y=>PyData.eqv (toD y) (toD (.str x)))=decide (x∈ls)
 |[],_=>rfl
 |l::r,h=>by rw[List.map_cons,List.any_cons,Jf l x (h l (by simp)) hx,sJ hx fun z hz=>h z (List.mem_cons_of_mem _ hz),Bool.eq_iff_iff,Bool.or_eq_true,decide_eq_true_eq,decide_eq_true_eq,decide_eq_true_eq,List.mem_cons];exact or_congr eq_comm Iff.rfl
theorem oP:∀{ls:List (List Nat)},(∀l∈ls,∀c∈l,c<1114112)→(ls.map PV.str).all (Oq [])=true
 |[],_=>rfl
 |l::r,h=>by rw[List.map_cons,List.all_cons,lX [] (h l (by simp)),oP fun z hz=>h z (List.mem_cons_of_mem _ hz)];rfl
theorem LH{x:List Nat}{ls:List (List Nat)}(hx:∀c∈x,c<1114112)(hl:∀l∈ls,∀c∈l,c<1114112)(h:List L3.PO):yv (.str x) (.tup (ls.map PV.str)) h=some (decide (x∈ls)):=by show(if Oq [] (.str x)=true∧(ls.map PV.str).all (Oq [])=true then some ((ls.map PV.str).any fun y=>PyData.eqv (toD y) (toD (.str x)))else none)=_;rw[if_pos ⟨lX [] hx,oP hl⟩,sJ hx hl]
theorem LI{x:List Nat}{ls:List (List Nat)}(hx:∀c∈x,c<1114112)(hl:∀l∈ls,∀c∈l,c<1114112)(h:List L3.PO):yv (.str x) (.lst (ls.map PV.str)) h=some (decide (x∈ls)):=by show(if Oq [] (.str x)=true∧(ls.map PV.str).all (Oq [])=true then some ((ls.map PV.str).any fun y=>PyData.eqv (toD y) (toD (.str x)))else none)=_;rw[if_pos ⟨lX [] hx,oP hl⟩,sJ hx hl]
theorem Gd{x:List Nat}{ls:List (List Nat)}(hx:∀c∈x,c<1114112)(hl:∀l∈ls,∀c∈l,c<1114112)(h:List L3.PO):fJ (.str x) (.tup (ls.map PV.str)) h=.ok (.bl (!decide (x∈ls))) h:=by unfold fJ;rw[LH hx hl]
theorem Nw{x:List Nat}{ls:List (List Nat)}(hx:∀c∈x,c<1114112)(hl:∀l∈ls,∀c∈l,c<1114112)(h:List L3.PO):Zj (.str x) (.lst (ls.map PV.str)) h=.ok (.bl (decide (x∈ls))) h:=by unfold Zj;rw[LI hx hl]
theorem lN:∀{ls:List (List Nat)},(∀l∈ls,∀c∈l,c<1114112)→PyData.canLayAll0 (gS (ls.map PV.str))=true∧PyData.depthAll (gS (ls.map PV.str))≤1
 |[],_=>by simp[gS,PyData.canLayAll0,PyData.depthAll]
 |l::r,h=>by
  have ih:=lN fun z hz=>h z (List.mem_cons_of_mem _ hz);have h1:∀c∈l,c<1114112:=h l (by simp)
  have h2:PyData.canLay0 (toD (.str l))=true:=by have:=lX [] h1;unfold Oq at this;exact((abk _ _).mp this).1
  have h3:PyData.depth (toD (.str l))≤1:=by simp[toD,PyData.depth]
  rw[List.map_cons];simp only[gS,PyData.canLayAll0,PyData.depthAll,h2,ih.1,Bool.and_self,true_and];omega
section
variable(ρ:Ev)(h:List PO)
theorem Jt(C:Nat)(v:PV):ao h (.SX C v)= .SX C v:=rfl
theorem BL(l:List Nat)(q:PV):oq (.str l) q h=Pb (.str l) q h:=rfl
end
section
variable(ρ:Ev)(h:List PO)
theorem Fb:qN ρ h=.ok (.ref h.length) (h++ [.dct []]):=rfl
theorem Gz(kps:List (PK×PV)):wH (.dct kps) h=.ok (.lst (kps.map (·.2))) h:=rfl
theorem La(l:List (PK×PV)):gk [.dct l] h=.ok (.int l.length) h:=rfl
theorem Fi(l:List (PK×PV)):lW [.dct l] h=.ok (.ref h.length) (h++ [.dct l]):=rfl
theorem LD(l:List (PK×PV))(x:List Nat):B_ (.dct l) (.str x) h=match bj l (.inr x)with|some v=>.ok (ao h v) h|none=>.bad:=rfl
theorem LG(l:List (PK×PV))(x:List Nat):fJ (.str x) (.dct l) h=.ok (.bl (!(bj l (.inr x)).isSome)) h:=rfl
theorem Fw(i j:Int):bo (.int i) (.int j) h=.ok (.int (i+j)) h:=rfl
theorem nH(a b:List Nat):bo (.str a) (.str b) h=if a.length+b.length≤sizeLine then .ok (.str (a++b)) h else .bad:=rfl
theorem LU(l:List (PK×PV))(r:List PO):ao (.dct l::r) (.ref 0)=.ref 0:=rfl
theorem uD{l:List (PK×PV)}(r:List PO)(hp:aE l=true):Ys (.ref 0) (.dct l::r)=.ok (.dct l) (.G7 (.dct l)::r):=by simp[Ys,fzP,qp,hp]
theorem oG{p:PV}(hp:p.pure=true):eL h p=some (p,h):=by cases p<;>first|(simp[PV.pure]at hp;done)|simp[eL,hp]
theorem aq{p:PV}(hp:p.pure=true):ao h p=p:=by cases p<;>first|(simp[PV.pure]at hp;done)|rfl
theorem GS(v:PV)(l:List (PK×PV))(r:List PO)(x:List Nat):tw v (.ref 0) (.str x) ρ (.dct l::r)=if l.length<sizeLine then .nx ρ (.dct (br l (.inr x) v)::r)else .bad:=rfl
end
section
variable{ρ:Ev}{h:List L3.PO}
theorem NC:mD [] ρ=some ρ:=rfl
theorem Ji(xs:List PV):BM [.lst xs] h=.ok (VP 0 xs) h:=rfl
theorem Km(l:List Nat)(lo hi:Option Int):oY (.str l) lo hi h=if l.length≤sizeLine then .ok (.str (cut l lo hi)) h else .bad:=rfl
end
section
variable(ρ:Ev)(h:List PO)
theorem LZ(ok:Nat→Bool)(C:Nat)(v:PV):pAt ok (.SX C v) h=if ok C=true then .ok v h else .bad:=rfl
end
section
variable(ρ:Ev)(h:List PO)(a K xa:PV)(b:Ev)(c d e f g i j k l m n o p q r s t u v y:Option PV)(w:Nat)(x I O:Ex)(z A:Sx)(B:PV→List PO→Res PV)(C:List PV→List PO→Res PV)(D:Ax)(E:List PV→Out)(G:List PV→Res PV)(H N:PV→PV→List PO→Res PV)(J:List PV)(L:Bool)(M W:Tx)(P Q:Ox)(R:PV→Option Int→Option Int→List PO→Res PV)(S:Option Int)(T:Int)(U:List PO→PV→Bool)(V:PV→List PV→List PO→Res PV)(X:List Nat)(Y:Gx)(Z:PV→PV→PV→Ev→List PO→SR)(xb:WL)
theorem kv0:ae 0 (some a::b) h=.ok (ao h a) h:=rfl
theorem kv1:ae 1 (c::some a::b) h=.ok (ao h a) h:=rfl
theorem kv2:ae 2 (c::d::some a::b) h=.ok (ao h a) h:=rfl
theorem kv3:ae 3 (c::d::e::some a::b) h=.ok (ao h a) h:=rfl
theorem kv4:ae 4 (c::d::e::f::some a::b) h=.ok (ao h a) h:=rfl
theorem kv5:ae 5 (c::d::e::f::g::some a::b) h=.ok (ao h a) h:=rfl
theorem kv6:ae 6 (c::d::e::f::g::i::some a::b) h=.ok (ao h a) h:=rfl
theorem kv7:ae 7 (c::d::e::f::g::i::j::some a::b) h=.ok (ao h a) h:=rfl
theorem kv8:ae 8 (c::d::e::f::g::i::j::k::some a::b) h=.ok (ao h a) h:=rfl
theorem kv9:ae 9 (c::d::e::f::g::i::j::k::l::some a::b) h=.ok (ao h a) h:=rfl
theorem MT:ae 10 (c::d::e::f::g::i::j::k::l::m::some a::b) h=.ok (ao h a) h:=rfl
theorem MS:ae 11 (c::d::e::f::g::i::j::k::l::m::n::some a::b) h=.ok (ao h a) h:=rfl
theorem MR:ae 12 (c::d::e::f::g::i::j::k::l::m::n::o::some a::b) h=.ok (ao h a) h:=rfl
theorem MQ:ae 13 (c::d::e::f::g::i::j::k::l::m::n::o::p::some a::b) h=.ok (ao h a) h:=rfl
theorem MP:ae 14 (c::d::e::f::g::i::j::k::l::m::n::o::p::q::some a::b) h=.ok (ao h a) h:=rfl
theorem MO:ae 15 (c::d::e::f::g::i::j::k::l::m::n::o::p::q::r::some a::b) h=.ok (ao h a) h:=rfl
theorem MN:ae 16 (c::d::e::f::g::i::j::k::l::m::n::o::p::q::r::s::some a::b) h=.ok (ao h a) h:=rfl
theorem MM:ae 17 (c::d::e::f::g::i::j::k::l::m::n::o::p::q::r::s::t::some a::b) h=.ok (ao h a) h:=rfl
theorem ML:ae 18 (c::d::e::f::g::i::j::k::l::m::n::o::p::q::r::s::t::u::some a::b) h=.ok (ao h a) h:=rfl
theorem MK:ae 19 (c::d::e::f::g::i::j::k::l::m::n::o::p::q::r::s::t::u::v::some a::b) h=.ok (ao h a) h:=rfl
def Sg(i:Nat)(ρ:Ev)(r:Res PV):SR:=dA r fun v h1=>.nx (ρ.set i (some v)) h1
theorem Er:ba w x ρ h=Sg w ρ (x ρ h):=rfl
theorem ks1:Sg 1 (c::d::b) (.ok a h)=.nx (c::some a::b) h:=rfl
theorem ks2:Sg 2 (c::d::e::b) (.ok a h)=.nx (c::d::some a::b) h:=rfl
theorem ks3:Sg 3 (c::d::e::f::b) (.ok a h)=.nx (c::d::e::some a::b) h:=rfl
theorem ks4:Sg 4 (c::d::e::f::g::b) (.ok a h)=.nx (c::d::e::f::some a::b) h:=rfl
theorem ks5:Sg 5 (c::d::e::f::g::i::b) (.ok a h)=.nx (c::d::e::f::g::some a::b) h:=rfl
theorem ks6:Sg 6 (c::d::e::f::g::i::j::b) (.ok a h)=.nx (c::d::e::f::g::i::some a::b) h:=rfl
theorem ks7:Sg 7 (c::d::e::f::g::i::j::k::b) (.ok a h)=.nx (c::d::e::f::g::i::j::some a::b) h:=rfl
theorem ks9:Sg 9 (c::d::e::f::g::i::j::k::l::m::b) (.ok a h)=.nx (c::d::e::f::g::i::j::k::l::some a::b) h:=rfl
theorem Nk:Sg 10 (c::d::e::f::g::i::j::k::l::m::n::b) (.ok a h)=.nx (c::d::e::f::g::i::j::k::l::m::some a::b) h:=rfl
theorem Nj:Sg 11 (c::d::e::f::g::i::j::k::l::m::n::o::b) (.ok a h)=.nx (c::d::e::f::g::i::j::k::l::m::n::some a::b) h:=rfl
theorem Ni:Sg 12 (c::d::e::f::g::i::j::k::l::m::n::o::p::b) (.ok a h)=.nx (c::d::e::f::g::i::j::k::l::m::n::o::some a::b) h:=rfl
theorem Nh:Sg 13 (c::d::e::f::g::i::j::k::l::m::n::o::p::q::b) (.ok a h)=.nx (c::d::e::f::g::i::j::k::l::m::n::o::p::some a::b) h:=rfl
theorem Ng:Sg 14 (c::d::e::f::g::i::j::k::l::m::n::o::p::q::r::b) (.ok a h)=.nx (c::d::e::f::g::i::j::k::l::m::n::o::p::q::some a::b) h:=rfl
theorem Nf:Sg 15 (c::d::e::f::g::i::j::k::l::m::n::o::p::q::r::s::b) (.ok a h)=.nx (c::d::e::f::g::i::j::k::l::m::n::o::p::q::r::some a::b) h:=rfl
theorem Nd:Sg 16 (c::d::e::f::g::i::j::k::l::m::n::o::p::q::r::s::t::b) (.ok a h)=.nx (c::d::e::f::g::i::j::k::l::m::n::o::p::q::r::s::some a::b) h:=rfl
theorem Nc:Sg 17 (c::d::e::f::g::i::j::k::l::m::n::o::p::q::r::s::t::u::b) (.ok a h)=.nx (c::d::e::f::g::i::j::k::l::m::n::o::p::q::r::s::t::some a::b) h:=rfl
theorem Nb:Sg 18 (c::d::e::f::g::i::j::k::l::m::n::o::p::q::r::s::t::u::v::b) (.ok a h)=.nx (c::d::e::f::g::i::j::k::l::m::n::o::p::q::r::s::t::u::some a::b) h:=rfl
theorem Na:Sg 19 (c::d::e::f::g::i::j::k::l::m::n::o::p::q::r::s::t::u::v::y::b) (.ok a h)=.nx (c::d::e::f::g::i::j::k::l::m::n::o::p::q::r::s::t::u::v::some a::b) h:=rfl
theorem vR:Sg w ρ (.exc a h)=.exc a h:=rfl
def wX(g:Sx)(r:SR):SR:=match r with
 |.nx ρ1 h1=>g ρ1 h1
 |.rt v h1=>.rt v h1
 |.bk ρ1 h1=>.bk ρ1 h1
 |.ct ρ1 h1=>.ct ρ1 h1
 |.exc v h1=>.exc v h1
 |.bad=>.bad
theorem Es:aI z A ρ h=wX A (z ρ h):=rfl
theorem Kl:wX z (.nx ρ h)=z ρ h:=rfl
theorem Kk:wX z (.rt a h)=.rt a h:=rfl
theorem GN:wX z (.exc a h)=.exc a h:=rfl
def kg{α β:Type}(f:α→List PO→Res β)(r:Res α):Res β:=r.bind f
theorem Li{α β:Type}(f:α→List PO→Res β)(a:α):kg f (.ok a h)=f a h:=rfl
theorem Lh:c1 B x ρ h=kg B (x ρ h):=rfl
theorem Le:cN C D ρ h=kg C (D ρ h):=rfl
theorem Ez:bu E D ρ h=kg (bR E) (D ρ h):=rfl
theorem Br:fK C D ρ h=kg (lE C) (D ρ h):=rfl
theorem EA:mo x ρ h=kg iS (x ρ h):=rfl
theorem Bt:uS D ρ h=kg BM (D ρ h):=rfl
theorem Ld:XF x ρ h=kg Ys (x ρ h):=rfl
theorem Bs:lF x ρ h=kg io (x ρ h):=rfl
theorem El:BU x ρ h=kg wH (x ρ h):=rfl
def k2(g:PV→PV→List PO→Res PV)(b:Ex)(ρ:Ev)(r:Res PV):Res PV:=r.bind fun x h1=>kg (g x) (b ρ h1)
theorem Lg:c2 H x I ρ h=k2 H I ρ (x ρ h):=rfl
theorem Lz:k2 H x ρ (.ok a h)=kg (H a) (x ρ h):=rfl
def kC2(x:PV)(r:Res (List PV)):Res (List PV):=r.bind fun xs h2=>.ok (x::xs) h2
def kC(r:Ax)(ρ:Ev)(x:Res PV):Res (List PV):=x.bind fun x h1=>kC2 x (r ρ h1)
theorem Ey:ac x D ρ h=kC D ρ (x ρ h):=rfl
theorem Lw:kC D ρ (.ok a h)=kC2 a (D ρ h):=rfl
theorem IK:kC2 a (.ok J h)=.ok (a::J) h:=rfl
def Ly(g:Ex)(ρ:Ev)(r:Res PV):Res PV:=r.bind fun p h1=>match p with|.bl b=>if b=true then g ρ h1 else .ok (.bl false) h1|_=>.bad
theorem Il:pG x I ρ h=Ly I ρ (x ρ h):=rfl
theorem IM:Ly x ρ (.ok (.bl L) h)=if L=true then x ρ h else .ok (.bl false) h:=rfl
def Lm(r:Res PV):Res PV:=r.bind fun p h1=>match p with|.bl b=>.ok (.bl (!b)) h1|_=>.bad
theorem Ih:Jx x ρ h=Lm (x ρ h):=rfl
theorem IA:Lm (.ok (.bl L) h)=.ok (.bl (!L)) h:=rfl
def kIe(f g:Ex)(ρ:Ev)(r:Res Bool):Res PV:=r.bind fun b h1=>if b=true then f ρ h1 else g ρ h1
theorem Ij:Fr M x I ρ h=kIe x I ρ (M ρ h):=rfl
theorem IE:kIe x I ρ (.ok L h)=if L=true then x ρ h else I ρ h:=rfl
def kH3(g':PV→PV→List PO→Res PV)(c:Ex)(ρ:Ev)(y:PV)(r:Res PV):Res PV:=r.bind fun z h3=>match z with|.bl k=>if k=true then kg (g' y) (c ρ h3)else .ok (.bl false) h3|_=>.bad
def kH2(g g':PV→PV→List PO→Res PV)(c:Ex)(ρ:Ev)(x:PV)(r:Res PV):Res PV:=r.bind fun y h2=>kH3 g' c ρ y (g x y h2)
def kH1(g g':PV→PV→List PO→Res PV)(b c:Ex)(ρ:Ev)(r:Res PV):Res PV:=r.bind fun x h1=>kH2 g g' c ρ x (b ρ h1)
theorem Bq:sH H N x I O ρ h=kH1 H N I O ρ (x ρ h):=rfl
theorem IG:kH1 H N x I ρ (.ok a h)=kH2 H N I ρ a (x ρ h):=rfl
theorem IF:kH2 H N x ρ a (.ok K h)=kH3 N x ρ K (H a K h):=rfl
theorem Lr:kH3 H x ρ a (.ok (.bl L) h)=if L=true then kg (H a) (x ρ h)else .ok (.bl false) h:=rfl
def kL2(f:PV→Option Int→Option Int→List PO→Res PV)(hi:Ox)(ρ:Ev)(p:PV)(r:Res (Option Int)):Res PV:=r.bind fun l h2=>kg (f p l) (hi ρ h2)
def kL1(f:PV→Option Int→Option Int→List PO→Res PV)(lo hi:Ox)(ρ:Ev)(r:Res PV):Res PV:=r.bind fun p h1=>kL2 f hi ρ p (lo ρ h1)
theorem Ie:pE x P Q ρ h=kL1 oY P Q ρ (x ρ h):=rfl
theorem IC:kL1 R P Q ρ (.ok a h)=kL2 R Q ρ a (P ρ h):=rfl
theorem IB:kL2 R P ρ a (.ok S h)=kg (R a S) (P ρ h):=rfl
def kO(r:Res PV):Res (Option Int):=r.bind fun p h1=>match p with|.int i=>.ok (some i) h1|_=>.bad
theorem Bp:jY x ρ h=kO (x ρ h):=rfl
theorem Np:kO (.ok (.int T) h)=.ok (some T) h:=rfl
def kM(recv:List PO→PV→Bool)(g:PV→List PV→List PO→Res PV)(as:Ax)(ρ:Ev)(r:Res PV):Res PV:=r.bind fun p h1=>if recv h1 p=true then kg (g p) (as ρ h1)else .bad
theorem Lf:cM U V x D ρ h=kM U V D ρ (x ρ h):=rfl
theorem Lp:kM U V D ρ (.ok a h)=if U h a=true then kg (V a) (D ρ h)else .bad:=rfl
def kTo(h:List PO)(o:Option Bool):Res Bool:=match o with|some b=>.ok b h|none=>.bad
def kTr(r:Res PV):Res Bool:=r.bind fun p h1=>kTo h1 (qW h1 p)
theorem Em:eG x ρ h=kTr (x ρ h):=rfl
theorem Ix:kTr (.ok a h)=kTo h (qW h a):=rfl
theorem Lk:kTo h (some L)=.ok L h:=rfl
def kCm(r:Res PV):Res Bool:=r.bind fun p h1=>match p with|.bl b=>.ok b h1|_=>.bad
theorem Eo:bI x ρ h=kCm (x ρ h):=rfl
theorem Lu:kCm (.ok (.bl L) h)=.ok L h:=rfl
def kNt(r:Res Bool):Res Bool:=r.bind fun b h1=>.ok (!b) h1
theorem En:gb M ρ h=kNt (M ρ h):=rfl
theorem Iz:kNt (.ok L h)=.ok (!L) h:=rfl
def kTu(g:Tx)(ρ:Ev)(r:Res Bool):Res Bool:=r.bind fun b h1=>if b=true then .ok true h1 else g ρ h1
theorem Ic:zE M W ρ h=kTu W ρ (M ρ h):=rfl
theorem Iw:kTu M ρ (.ok L h)=if L=true then .ok true h else M ρ h:=rfl
def kR1(ps:List PV)(h1:List PO):Res (List PV):=match ps with|[.int j]=>if Ua 4611686018427387904 j=true then .ok ((List.range j.toNat).map fun i=>PV.int (0+(i:Nat))) h1 else .bad|_=>.bad
theorem yL:dP D ρ h=kg kR1 (D ρ h):=rfl
theorem Ll(j:Int):kR1 [.int j] h=if Ua 4611686018427387904 j=true then .ok ((List.range j.toNat).map fun i=>PV.int (0+(i:Nat))) h else .bad:=rfl
def kCo(u_:List Nat)(tt:Tx)(te:Ex)(ρ:Ev)(r:Res (List PV)):Res (List PV):=r.bind fun xs h1=>if xs.length<sizeLine then cx tt te (ei u_ ρ) xs h1 else .bad
theorem Bu:fN X D M x ρ h=kCo X M x ρ (D ρ h):=rfl
theorem IJ:kCo X M x ρ (.ok J h)=if J.length<sizeLine then cx M x (ei X ρ) J h else .bad:=rfl
def kRt(r:Res PV):SR:=dA r fun v h1=>.rt v h1
theorem Et:bA x ρ h=kRt (x ρ h):=rfl
theorem Iy(v:PV):kRt (.ok v h)=.rt v h:=rfl
def kDr(ρ:Ev)(r:Res PV):SR:=dA r fun _ h1=>.nx ρ h1
theorem Bo:cQ x ρ h=kDr ρ (x ρ h):=rfl
theorem II:kDr ρ (.ok a h)=.nx ρ h:=rfl
theorem EB:kDr ρ (.exc a h)=.exc a h:=rfl
def kIf(f g:Sx)(ρ:Ev)(r:Res Bool):SR:=BX r fun b h1=>if b=true then f ρ h1 else g ρ h1
theorem Ig:Qc M z A ρ h=kIf z A ρ (M ρ h):=rfl
theorem ID:kIf z A ρ (.ok L h)=if L=true then z ρ h else A ρ h:=rfl
def kFo(g:Gx)(body:Sx)(ρ:Ev)(r:Res (List PV)):SR:=Bk r fun xs h1=>bD g body xs ρ h1
theorem Eu:jc D Y z ρ h=kFo Y z ρ (D ρ h):=rfl
theorem IH:kFo Y z ρ (.ok J h)=bD Y z J ρ h:=rfl
def kX3(s:PV→PV→PV→Ev→List PO→SR)(ρ:Ev)(v o:PV)(r:Res PV):SR:=dA r fun i h3=>s v o i ρ h3
def kX2(s:PV→PV→PV→Ev→List PO→SR)(fi:Ex)(ρ:Ev)(v:PV)(r:Res PV):SR:=dA r fun o h2=>kX3 s ρ v o (fi ρ h2)
def kX1(s:PV→PV→PV→Ev→List PO→SR)(fo fi:Ex)(ρ:Ev)(r:Res PV):SR:=dA r fun v h1=>kX2 s fi ρ v (fo ρ h1)
theorem Bm:rn x I O ρ h=kX1 lQ x I ρ (O ρ h):=rfl
theorem Ep:pW x I O ρ h=kX1 tw x I ρ (O ρ h):=rfl
theorem Iv:kX1 Z x I ρ (.ok a h)=kX2 Z I ρ a (x ρ h):=rfl
theorem Iu:kX2 Z x ρ a (.ok K h)=kX3 Z ρ a K (x ρ h):=rfl
theorem Ir:kX3 Z ρ a K (.ok xa h)=Z a K xa ρ h:=rfl
def kAo(h:List PO)(o:Option Ev):SR:=match o with|some ρ1=>.nx ρ1 h|none=>.bad
def kAs(g:Gx)(ρ:Ev)(r:Res PV):SR:=dA r fun v h1=>kAo h1 (g v ρ)
theorem Ik:CU Y x ρ h=kAs Y ρ (x ρ h):=rfl
theorem IL:kAs Y ρ (.ok a h)=kAo h (Y a ρ):=rfl
theorem Lx:kAo h (some ρ)=.nx ρ h:=rfl
def kG(gs:WL)(r:List PV)(o:Option Ev):Option Ev:=match o with|some ρ1=>gs r ρ1|none=>none
theorem Nl:ck Y xb (a::J) ρ=kG xb J (Y a ρ):=rfl
theorem Nq:kG xb J (some ρ)=xb J ρ:=rfl
def kIx(h:List PO)(o:Option PV):Res PV:=match o with|some v=>.ok (ao h v) h|none=>.bad
theorem Gh:kIx h (some a)=.ok (ao h a) h:=rfl
theorem Gg:B_ (.tup J) (.int T) h=kIx h (QW J T):=rfl
theorem qr:B_ (.lst J) (.int T) h=kIx h (QW J T):=rfl
theorem Lc:B_ (.Q8 J) (.int T) h=kIx h (QW J T):=rfl
end
section
variable(ρ:Ev)(h:List PO)(a b:PV)(w j:Nat)(x y:Ex)(z g:Sx)(C:List PV→List PO→Res PV)(D:Ax)(J:List PV)(o:Option (Nat×List PV))(f:Nat→Bool)(i:Nat)
theorem AV:oO C D ρ h=kg C (D ρ h):=rfl
def nMa(C:List PV→List PO→Res PV)(p:PV)(r:Res (List PV)):Res PV:=r.bind fun ps h2=>C (p::ps) h2
def nMo(w:Nat)(C:List PV→List PO→Res PV)(D:Ax)(ρ:Ev)(r:Res PV):Res PV:=r.bind fun p h1=>if(jT w h1 p).isSome=true then nMa C p (D ρ h1)else .bad
theorem DY:be w C x D ρ h=nMo w C D ρ (x ρ h):=by
 unfold be nMo
 cases x ρ h with
 |ok p h1=>
  show(match jT w h1 p with|some _=>_|none=>_)=_
  cases q:jT w h1 p with
  |none=>simp[Res.bind,q]
  |some _=>simp[Res.bind,q,nMa]
 |exc _ _=>rfl
 |bad=>rfl
theorem HX:nMo w C D ρ (.ok a h)=if(jT w h a).isSome=true then nMa C a (D ρ h)else .bad:=rfl
theorem HY:nMa C a (.ok J h)=C (a::J) h:=rfl
theorem HR:wt w C D ρ h=kg (Xv w C) (D ρ h):=rfl
def HW(w j:Nat)(ρ:Ev)(v:PV)(r:Res PV):SR:=dA r fun o h2=>vq w j v o ρ h2
def KY(w j:Nat)(fo:Ex)(ρ:Ev)(r:Res PV):SR:=dA r fun v h1=>HW w j ρ v (fo ρ h1)
theorem DX:nT w j x y ρ h=KY w j x ρ (y ρ h):=rfl
theorem Eh:KY w j x ρ (.ok a h)=HW w j ρ a (x ρ h):=rfl
theorem Eg:HW w j ρ a (.ok b h)=vq w j a b ρ h:=rfl
theorem HQ:Fx D ρ h=kg zq (D ρ h):=rfl
theorem LN(n:Nat)(gs:WL):gTl n gs (.lst J) ρ=if J.length=n then gs J ρ else none:=rfl
def nTr(f:Nat→Bool)(i:Nat)(gs:Sx)(ρ:Ev)(r:SR):SR:=match r with
 |.exc e h1=>match BI e with
  |some (C,p)=>if f C=true then(match gs (ρ.set i (some p)) h1 with
   |.rt v h2=>.rt v h2
   |_=>.bad)else .bad
  |none=>.bad
 |r=>r
theorem DW:wV f z i g ρ h=nTr f i g ρ (z ρ h):=rfl
theorem HU(ρ1:Ev):nTr f i g ρ (.nx ρ1 h)=.nx ρ1 h:=rfl
end
section
variable(h:List PO)(a:PV)(b:Ev) (c0 c1 c2 c3 c4 c5 c6 c7 c8 c9 Tw Tv Us Ur Uo Um Ul Uk Uj Ui U9 V0 W3 Yy c24 c25 c26:Option PV)
theorem MJ:ae 20 (c0::c1::c2::c3::c4::c5::c6::c7::c8::c9::Tw::Tv::Us::Ur::Uo::Um::Ul::Uk::Uj::Ui::some a::b) h=.ok (ao h a) h:=rfl
theorem MZ:Sg 20 (c0::c1::c2::c3::c4::c5::c6::c7::c8::c9::Tw::Tv::Us::Ur::Uo::Um::Ul::Uk::Uj::Ui::U9::b) (.ok a h)=.nx (c0::c1::c2::c3::c4::c5::c6::c7::c8::c9::Tw::Tv::Us::Ur::Uo::Um::Ul::Uk::Uj::Ui::some a::b) h:=rfl
theorem MI:ae 21 (c0::c1::c2::c3::c4::c5::c6::c7::c8::c9::Tw::Tv::Us::Ur::Uo::Um::Ul::Uk::Uj::Ui::U9::some a::b) h=.ok (ao h a) h:=rfl
theorem MY:Sg 21 (c0::c1::c2::c3::c4::c5::c6::c7::c8::c9::Tw::Tv::Us::Ur::Uo::Um::Ul::Uk::Uj::Ui::U9::V0::b) (.ok a h)=.nx (c0::c1::c2::c3::c4::c5::c6::c7::c8::c9::Tw::Tv::Us::Ur::Uo::Um::Ul::Uk::Uj::Ui::U9::some a::b) h:=rfl
theorem MH:ae 22 (c0::c1::c2::c3::c4::c5::c6::c7::c8::c9::Tw::Tv::Us::Ur::Uo::Um::Ul::Uk::Uj::Ui::U9::V0::some a::b) h=.ok (ao h a) h:=rfl
theorem MX:Sg 22 (c0::c1::c2::c3::c4::c5::c6::c7::c8::c9::Tw::Tv::Us::Ur::Uo::Um::Ul::Uk::Uj::Ui::U9::V0::W3::b) (.ok a h)=.nx (c0::c1::c2::c3::c4::c5::c6::c7::c8::c9::Tw::Tv::Us::Ur::Uo::Um::Ul::Uk::Uj::Ui::U9::V0::some a::b) h:=rfl
theorem MG:ae 23 (c0::c1::c2::c3::c4::c5::c6::c7::c8::c9::Tw::Tv::Us::Ur::Uo::Um::Ul::Uk::Uj::Ui::U9::V0::W3::some a::b) h=.ok (ao h a) h:=rfl
theorem MW:Sg 23 (c0::c1::c2::c3::c4::c5::c6::c7::c8::c9::Tw::Tv::Us::Ur::Uo::Um::Ul::Uk::Uj::Ui::U9::V0::W3::Yy::b) (.ok a h)=.nx (c0::c1::c2::c3::c4::c5::c6::c7::c8::c9::Tw::Tv::Us::Ur::Uo::Um::Ul::Uk::Uj::Ui::U9::V0::W3::some a::b) h:=rfl
theorem MF:ae 24 (c0::c1::c2::c3::c4::c5::c6::c7::c8::c9::Tw::Tv::Us::Ur::Uo::Um::Ul::Uk::Uj::Ui::U9::V0::W3::Yy::some a::b) h=.ok (ao h a) h:=rfl
theorem MV:Sg 24 (c0::c1::c2::c3::c4::c5::c6::c7::c8::c9::Tw::Tv::Us::Ur::Uo::Um::Ul::Uk::Uj::Ui::U9::V0::W3::Yy::c24::b) (.ok a h)=.nx (c0::c1::c2::c3::c4::c5::c6::c7::c8::c9::Tw::Tv::Us::Ur::Uo::Um::Ul::Uk::Uj::Ui::U9::V0::W3::Yy::some a::b) h:=rfl
theorem ME:ae 25 (c0::c1::c2::c3::c4::c5::c6::c7::c8::c9::Tw::Tv::Us::Ur::Uo::Um::Ul::Uk::Uj::Ui::U9::V0::W3::Yy::c24::some a::b) h=.ok (ao h a) h:=rfl
theorem MU:Sg 25 (c0::c1::c2::c3::c4::c5::c6::c7::c8::c9::Tw::Tv::Us::Ur::Uo::Um::Ul::Uk::Uj::Ui::U9::V0::W3::Yy::c24::c25::b) (.ok a h)=.nx (c0::c1::c2::c3::c4::c5::c6::c7::c8::c9::Tw::Tv::Us::Ur::Uo::Um::Ul::Uk::Uj::Ui::U9::V0::W3::Yy::c24::some a::b) h:=rfl
end
end L3
namespace U3
open PySem L2 L3
local macro_rules | `(tactic| simp $c:optConfig only [EV,$xs,*])=>do let a←(("Res.Ov NM Jd BJ Fc Fa yX BK Je Jq LV Jn Jo Jm Jp Js Ju Jr Fh GM HZ KS KW Jw Nv LA KZ Ge Ib Ei GD HP Ea LF Md Kh CS CQ CT EF ER IY EO ES BB yW AW JT vU vW ut uq ur vY uw uA vX uv uu vZ uz ux uy szl CF Jt Fb Gz La Fi LD LG Fw nH LU GS NC Ji Km LZ kv0 kv1 kv2 kv3 kv4 kv5 kv6 kv7 kv8 kv9 MT MS MR MQ MP MO MN MM ML MK Er ks1 ks2 ks3 ks4 ks5 ks6 ks7 ks9 Nk Nj Ni Nh Ng Nf Nd Nc Nb Na vR Es Kl Kk GN Li Lh Le Ez Br EA Bt Ld Bs El Lg Lz Ey Lw IK Il IM Ih IA Ij IE Bq IG IF Lr Ie IC IB Bp Np Lf Lp Em Ix Lk Eo Lu En Iz Ic Iw yL Ll Bu IJ Et Iy Bo II EB Ig ID Eu IH Bm Ep Iv Iu Ir Ik IL Lx Nl Nq Gh Gg qr Lc AV DY HX HY HR DX Eh Eg HQ LN DW HU MJ MZ MI MY MH MX MG MW MF MV ME MU".splitOn.map fun n=>`L3++n.toName)++("List.getElem?_cons_zero List.getElem?_cons_succ List.set_cons_zero List.set_cons_succ List.map_cons List.map_nil List.append_nil List.nil_append List.cons_append if_true if_false reduceIte Bool.not_true Bool.not_false Bool.true_and Bool.false_and Bool.and_true Bool.false_or Bool.or_false Bool.not_not eq_self_iff_true true_and and_true Bool.false_eq_true reduceCtorEq List.length_cons List.length_nil List.replicate Nat.sub_self Nat.zero_add Option.isSome_some Option.isSome_none Nat.reduceAdd Nat.reduceLeDiff Int.reduceLT Int.reduceLE decide_true decide_false Int.reduceNeg Int.reducePow Nat.reducePow Int.reduceAdd Int.reduceMul Int.reduceSub Nat.reduceSub and_self Nat.reduceMul Nat.reduceEqDiff".splitOn.map fun n=>n.toName)).toArray.mapM fun n=>`(Lean.Parser.Tactic.simpLemma| $(Lean.mkIdent n):term);`(tactic| simp $c:optConfig only [$a,*,$xs,*])
theorem mx:∀l:List (List Nat),dS (l.map PV.str)=some l
 |[]=>rfl
 |a::r=>by rw[List.map_cons,dS,mx r];rfl
theorem Nu:oB .non=true:=rfl
theorem sg:∀{l:List PV}(h:List PO),ag l=true→M7 l h=some (l,h)
 |[],_,_=>rfl
 |p::r,h,e=>by rw[ag,Bool.and_eq_true]at e;rw[M7,oG h e.1];dsimp only;rw[sg h e.2]
theorem bh{fn:List PV→Out}{ps:List PV}{v:PV}(h:List PO)(hp:ag ps=true)(e:fn ps=.ok v):bR fn ps h=.ok v h:=by rw[bX,sg h hp];dsimp only;rw[e]
theorem rf(x:PV)(r:List PV)(h:List PO):oY (.tup (x::r)) (some 1) none h=.ok (.tup r) h:=by
 have e1:HT.J4 (x::r).length 0 (some 1)=1:=by have:=HT.Vs (x::r).length 0 1;rw[show((1:Nat):Int)=1 from rfl]at this;rw[this,List.length_cons];omega
 have e2:HT.J4 (x::r).length (x::r).length none=(x::r).length:=rfl;unfold oY;dsimp only;rw[if_neg (by rw[e1];intro z;cases z.1)];unfold cut;rw[e1,e2];simp
theorem Td{α:Type}(a:α)(l:List α):QW (a::l) 0=some a:=di (by decide) rfl
theorem at1{α:Type}(a b:α)(l:List α):QW (a::b::l) 1=some b:=di (by decide) rfl
theorem at2{α:Type}(a b c:α)(l:List α):QW (a::b::c::l) 2=some c:=di (by decide) rfl
theorem Yz{α:Type}(a b c d:α)(l:List α):QW (a::b::c::d::l) 3=some d:=di (by decide) rfl
theorem YZ{α:Type}(a b c d e:α)(l:List α):QW (a::b::c::d::e::l) 4=some e:=di (by decide) rfl
theorem Mo(x:PV)(h:List PO):qW h (.tup [x])=some true:=rfl
theorem Mp(h:List PO):qW h (.tup [])=some false:=rfl
theorem bl2(k:Nat):Nat.ble 2 (dl (k+1))=true:=rfl
noncomputable def hW(n:Int)(ps:List (List Nat))(d:List (PK×PV)):List PO:=[.obj 601 [.ref 1,.ref 3],.obj 600 [.ref 2,.int n],.lst (ps.map PV.str),.dct d]
def Oq(d:List (PK×PV)):Bool:=d.all fun x=>SN 4 x.2
section
variable(n m:Int)(ps qs:List (List Nat))(d:List (PK×PV))(ρ:Ev)(t:List Nat)(v:PV)
theorem lu:hU 601 0 (.ref 0) (hW n ps d)=.ok (.ref 1) (hW n ps d):=rfl
theorem Gi:hU 601 1 (.ref 0) (hW n ps d)=.ok (.ref 3) (hW n ps d):=rfl
theorem BF:hU 600 0 (.ref 1) (hW n ps d)=.ok (.ref 2) (hW n ps d):=rfl
theorem LR:hU 600 1 (.ref 1) (hW n ps d)=.ok (.int n) (hW n ps d):=rfl
theorem Kn:vq 600 1 (.int m) (.ref 1) ρ (hW n ps d)=.nx ρ (hW m ps d):=rfl
theorem Vu:(jT 601 (hW n ps d) (.ref 0)).isSome=true:=rfl
theorem S7:(jT 600 (hW n ps d) (.ref 1)).isSome=true:=rfl
theorem Vn:ao (hW n ps d) (.ref 0)=.ref 0:=rfl
theorem VR:ao (hW n ps d) (.ref 1)=.ref 1:=rfl
theorem l_2:iT (hW n ps d) (.ref 2)=true:=rfl
theorem a_2(hl:ps.length<16777216):cT (.ref 2) [.str t] (hW n ps d)=.ok .non (hW n (ps++ [t]) d):=by
 have e:(ps.map PV.str).length<sizeLine:=by rw[List.length_map];exact Nat.lt_of_lt_of_le hl (by decide)
 show(if(ps.map PV.str).length<sizeLine then Res.ok PV.non [PO.obj 601 [.ref 1,.ref 3],.obj 600 [.ref 2,.int n],.lst (ps.map PV.str++ [.str t]),.dct d]else .bad)=_;rw[if_pos e];unfold hW;rw[List.map_append];rfl
theorem sK:∀qs:List (List Nat),(qs.map PV.str).all (SN 4)=true
 |[]=>rfl
 |_::r=>sK r
theorem lB{d:List (PK×PV)}(hd:Oq d=true):sA (hW n ps d).length v (hW m qs d)=.ok v (hW m qs d):=by
 have e:((hW m qs d).take (hW n ps d).length).all (VJ (hW n ps d).length)=true:=by show([PO.obj 601 [.ref 1,.ref 3],.obj 600 [.ref 2,.int m],.lst (qs.map PV.str),.dct d].all (VJ 4))=true;have h2:VJ 4 (.lst (qs.map PV.str))=true:=sK qs;have h3:VJ 4 (.dct d)=true:=hd;simp only[List.all_cons,h2,h3];rfl
 unfold sA;rw[e];rfl
theorem uM{d:List (PK×PV)}(hd:Oq d=true)(hv:v.pure=true):za (hW n ps d).length v (hW m qs d)=.exc v (hW m qs d):=by
 have e:((hW m qs d).take (hW n ps d).length).all (VJ (hW n ps d).length)=true:=by show([PO.obj 601 [.ref 1,.ref 3],.obj 600 [.ref 2,.int m],.lst (qs.map PV.str),.dct d].all (VJ 4))=true;have h2:VJ 4 (.lst (qs.map PV.str))=true:=sK qs;have h3:VJ 4 (.dct d)=true:=hd;simp only[List.all_cons,h2,h3];rfl
 unfold za;rw[e,hv];rfl
theorem oH{d:List (PK×PV)}(hd:Oq d=true)(hv:v.pure=true):uF (hW n ps d).length v (hW m qs d)=.ok v (hW m qs d):=by unfold uF;rw[if_pos (kY hv),lB n m ps qs v hd]
end
section
variable(k:Nat)(n:Int)(ps:List (List Nat)){d:List (PK×PV)}(hd:Oq d=true)
include hd
theorem jE(hl:ps.length<16777216)(t:List Nat):X_ (k+1) .o7 [.ref 1,.str t] (hW n ps d)=.ok .non (hW n (ps++ [t]) d):=by show bn (fm (F k)) 2 2 [.ref 1,.str t] (hW n ps d)=_;simp only[EV,bn,fm,BF,l_2,a_2 _ _ _ _ hl,VR,lB _ _ _ _ _ hd]
theorem lV(h0:n<2000):X_ (k+1) .j6 [.ref 1] (hW n ps d)=.ok .non (hW (n+1) ps d):=by show bn (cF (F k) _) 1 1 [.ref 1] (hW n ps d)=_;have e:(decide (n+1>2000))=false:=decide_eq_false (by omega);simp only[EV,bn,cF,LR,Kn,VR,VH,e,lB _ _ _ _ _ hd]
theorem yq(i:Int)(t:List Nat)(h0:n<2000)(hl:ps.length<16777216):X_ (k+2) .j5 [.ref 1,.int i,.str t] (hW n ps d)=.ok .non (hW (n+1) (if i>0 then ps++ [t]else ps) d):=by
 have c:=lV k n ps hd h0;have w:=jE k (n+1) ps hd hl t;show bn (bL (F (k+1)) (X_ (k+1))) 3 3 [.ref 1,.int i,.str t] (hW n ps d)=_
 by_cases e:i>0
 ·have e':decide (i>0)=true:=decide_eq_true e;simp only[EV,bn,bL,VR,S7,c,w,VH,e',lB _ _ _ _ _ hd];rw[if_pos e]
 ·have e':decide (i>0)=false:=decide_eq_false e;simp only[EV,bn,bL,VR,S7,c,w,VH,e',lB _ _ _ _ _ hd];rw[if_neg e]
theorem jF(r:List PV)(x y:PV)(h0:n<2000)(e:F (k+1) .found [x,.tup r]=.ok (.tup [y]))(hx:x.pure=true)(hr:ag r=true)(hy:y.pure=true):X_ (k+2) .g_ [.ref 1,.tup (x::r)] (hW n ps d)=.ok y (hW (n+1) ps d):=by
 have c:=lV k n ps hd h0;show bn (aZ (F (k+1)) (X_ (k+1)) _) 2 3 [.ref 1,.tup (x::r)] (hW n ps d)=_;have z1:∀h,oY (.tup (x::r)) (some 1) none h=.ok (.tup r) h:=rf x r;have z2:∀h,bR (F (k+1) .found) [x,.tup r] h=.ok (.tup [y]) h:=fun h=>bh h (by simp[ag,PV.pure,hx,hr]) e;have n0:∀h,B_ (.tup [y]) (.int 0) h=.ok y h:=fun h=>by show Res.ok (ao h y) h=_;rw[aq h hy]
 simp only[EV,bn,aZ,VR,S7,c,Td,aq _ hx,z1,z2,n0,Mo,oH _ _ _ _ _ hd hy]
theorem tX(r:List PV)(x:PV)(h0:n<2000)(e:F (k+1) .found [x,.tup r]=.ok (.tup []))(hx:x.pure=true)(hr:ag r=true):X_ (k+2) .g_ [.ref 1,.tup (x::r)] (hW n ps d)=.exc (.SX 500 (.str [102,105,101,108,100])) (hW (n+1) ps d):=by have c:=lV k n ps hd h0;show bn (aZ (F (k+1)) (X_ (k+1)) (Nat.ble 2 (dl (k+1)))) 2 3 [.ref 1,.tup (x::r)] (hW n ps d)=_;have z2:∀h,bR (F (k+1) .found) [x,.tup r] h=.ok (.tup []) h:=fun h=>bh h (by simp[ag,PV.pure,hx,hr]) e;simp only[EV,bn,aZ,VR,S7,c,Td,aq _ hx,rf,z2,Mp,bl2];exact uM _ _ _ _ _ hd rfl
end
theorem dE{v:PV}(h:List PO)(p:v.pure=true):dJ v h=.ok v:=by unfold dJ;rw[oG h p]
theorem Ja(k:Nat)(v:PV)(p:v.pure=true):F (k+1) .found [v,.tup []]=.ok (.tup [v]):=by show aJ (fQ (F k)) 2 4 [v,.tup []]=_;simp only[EV,aJ,fQ,aq _ p];exact dE _ (by simp[PV.pure,ag,p])
theorem sh(k:Nat)(l:List (PK×PV))(f:List Nat)(w:PV)(e:bj l (.inr f)=some w)(p:(PV.dct l).pure=true)(q:w.pure=true):F (k+1) .found [.dct l,.tup [.str f]]=.ok (.tup [w]):=by show aJ (fQ (F k)) 2 4 [.dct l,.tup [.str f]]=_;simp only[EV,aJ,fQ,lI,bD,e,aq _ q];exact dE _ (by simp[PV.pure,ag,q])
theorem IZ(k:Nat)(l:List (PK×PV))(f:List Nat)(e:bj l (.inr f)=none)(p:(PV.dct l).pure=true):F (k+1) .found [.dct l,.tup [.str f]]=.ok (.tup []):=by show aJ (fQ (F k)) 2 4 [.dct l,.tup [.str f]]=_;simp only[EV,aJ,fQ,lI,bD,e];rfl
noncomputable def xf(w:List Nat):PV:=.SX 500 (.str w)
section
variable(k:Nat)(n:Int)(ps:List (List Nat)){d:List (PK×PV)}(hd:Oq d=true)(r:List PV)(x:PV)(h0:n<2000)(hx:x.pure=true)(hr:ag r=true)
include hd h0 hx hr
theorem AF(xs:List PV)(e:F (k+1) .found [x,.tup r]=.ok (.tup [.lst xs]))(hy:ag xs=true):X_ (k+3) .j4 [.ref 1,.tup (x::r)] (hW n ps d)=.ok (.lst xs) (hW (n+1) ps d):=by have c:=jF k n ps hd r x (.lst xs) h0 e hx hr (by simpa[PV.pure]using hy);show bn (cr (F (k+2)) (X_ (k+2)) _) 2 3 [.ref 1,.tup (x::r)] (hW n ps d)=_;simp only[EV,bn,cr,VR,S7,c];exact oH _ _ _ _ _ hd (by simpa[PV.pure]using hy)
theorem yp(b:Bool)(e:F (k+1) .found [x,.tup r]=.ok (.tup [.bl b])):X_ (k+3) .h_ [.ref 1,.tup (x::r)] (hW n ps d)=.ok (.bl b) (hW (n+1) ps d):=by have c:=jF k n ps hd r x (.bl b) h0 e hx hr rfl;show bn (bY (F (k+2)) (X_ (k+2)) _) 2 3 [.ref 1,.tup (x::r)] (hW n ps d)=_;simp only[EV,bn,bY,VR,S7,c];exact oH _ _ _ _ _ hd rfl
theorem AE(w:PV)(hw:w.pure=true)(e:F (k+1) .found [x,.tup r]=.ok (.tup [])):X_ (k+3) .w6 [.ref 1,.tup (x::r),w] (hW n ps d)=.exc (xf [102,105,101,108,100]) (hW (n+1) ps d):=by have c:=tX k n ps hd r x h0 e hx hr;show bn (dm (F (k+2)) (X_ (k+2)) _) 3 5 [.ref 1,.tup (x::r),w] (hW n ps d)=_;simp only[EV,bn,dm,VR,S7,c,vR];exact uM _ _ _ _ _ hd rfl
end
theorem Bx(n:Int)(ps:List (List Nat))(d:List (PK×PV))(hz:(ps.map (fun l=>l.length)).sum≤16777216):gK (.str []) [.ref 2] (hW n ps d)=.ok (.str ps.flatten) (hW n ps d):=by rw[om (ls:=ps) rfl (by simpa using hz),mh]
section
variable(k:Nat)(n:Int)(ps:List (List Nat)){d:List (PK×PV)}(hd:Oq d=true)
include hd
theorem tV(hz:(ps.map (fun l=>l.length)).sum≤16777216):X_ (k+1) .f9 [.ref 1] (hW n ps d)=.ok (.tup [.str [119,114,105,116,116,101,110],.str ps.flatten]) (hW n ps d):=by show bn (bz (F k)) 1 1 [.ref 1] (hW n ps d)=_;have j:=Bx n ps d hz;simp only[EV,bn,bz,VR,BF,j];exact oH _ _ _ _ _ hd rfl
theorem tW(hz:(ps.map (fun l=>l.length)).sum≤16777216)(w:List Nat):X_ (k+1) .d7 [.ref 1,.str w] (hW n ps d)=.ok (.tup [.str [114,101,102,117,115,101,100],.str w,.str ps.flatten]) (hW n ps d):=by show bn (aX (F k)) 2 2 [.ref 1,.str w] (hW n ps d)=_;have j:=Bx n ps d hz;simp only[EV,bn,aX,VR,BF,j];exact oH _ _ _ _ _ hd rfl
end
noncomputable def wW:List Nat:=[119,111,114,100]
noncomputable def wN:List Nat:=[110,117,109,98,101,114]
theorem qi(C:Fn→List PV→Out)(t:PV)(al:List Nat)(h:List L3.PO):∀(l:List Nat)(o:Option PV),∃o',bD (PL 2) (cY C) (l.map fun c=>PV.str [c]) [some t,some (.str al),o] h=if l.all al.contains=true then .nx [some t,some (.str al),o'] h else .rt (.bl false) h
 |[],o=>⟨o,rfl⟩
 |c::r,o=>by
  obtain⟨o',e⟩:=qi C t al h r (some (.str [c]));refine⟨o',?_⟩;rw[List.map_cons,Fd,List.all_cons]
  cases hc:al.contains c with
  |true=>simp only[EV,cY,qz,hc];simpa only[cY,Bool.true_and]using e
  |false=>simp only[EV,cY,qz,hc]
theorem made(k:Nat)(l al:List Nat):F (k+1) .z9 [.str l,.str al]=.ok (.bl (l.all al.contains)):=by
 obtain⟨o',e⟩:=qi (F k) (.str l) al [] l none;show aJ (dr (F k)) 2 3 [.str l,.str al]=_
 cases q:l.all al.contains with
 |true=>simp only[EV,aJ,dr,e,q,dJ]
 |false=>simp only[EV,aJ,dr,e,q,dJ]
theorem yS(k:Nat)(l:List Nat)(n:Int)(hl:l.length≤16777216):F (k+2) .J_ [.str l,.int n]=.ok (.bl (decide ((l.length:Int)≤n)&&l.all fA.contains)):=by
 have e:=made k l fA;show aJ (fV (F (k+1))) 2 2 [.str l,.int n]=_
 cases q:decide ((l.length:Int)≤n)with
 |true=>simp only[EV,aJ,fV,bX,hl,q,e,dJ]
 |false=>simp only[EV,aJ,fV,bX,hl,q,e,dJ]
theorem CK{l A B:List Nat}(h:∀c∈l,c∈A)(s:∀c∈A,c∈B):l.all B.contains=true:=by rw[List.all_eq_true];intro c hc;simpa using s c (h c hc)
theorem ww{l A:List Nat}(h:∀c∈l,c∈A):l.all A.contains=true:=CK h fun _ h=>h
theorem Ch:∀c∈fA,c<1114112:=by decide+kernel
theorem uT:∀c∈cD,c∈fA:=by decide+kernel
theorem wK(k:Nat)(l:List Nat)(n:Nat)(ni:Int)(hi:ni=(n:Int))(hl:l.length≤n)(hn:n≤4000)(h:∀c∈l,c∈fA):F (k+2) .J_ [.str l,.int ni]=.ok (.bl true):=by subst hi;rw[yS k l n (by omega),decide_eq_true (by omega),ww h];rfl
theorem pN(k:Nat)(l:List Nat)(h1:1≤l.length)(h2:l.length≤40)(h:∀c∈l,c∈cD):F (k+3) .v9 [.ins 0 [],.str l]=.ok (.bl true):=by
 show aJ (fG (F (k+2))) 2 2 [.ins 0 [],.str l]=_;have e1:=wK k l 40 40 rfl h2 (by omega) (fun c hc=>uT c (h c hc));have e2:F (k+2) .z9 [.str l,.str cD]=.ok (.bl true):=by rw[made (k+1)];rw[ww h]
 have e3:Ti (.str l) (.str []) []=.ok (.bl true) []:=by
  rw[rT _ _ _ (fun c hc=>Ch c (uT c (h c hc))) (by simp)];have:l≠ []:=by intro z;subst z;simp at h1
  rw[decide_eq_false this];rfl
 simp only[EV,aJ,fG,bX,e1,e2,e3,dJ]
theorem my(k:Nat)(v:Int)(h1: -1000000000000000000000000000000<v)(h2:v<1000000000000000000000000000000):F (k+2) .p7 [.ins 1 [],.int v]=.ok (.bl true):=by
 show aJ (dM (F (k+1))) 2 2 [.ins 1 [],.int v]=_
 have e:F (k+1) .o9 [.int v]=.ok (.bl true):=by show aJ (bp (F k)) 1 1 [.int v]=_;have p1:decide (Int.natAbs 10<18446744073709551616)=true:=rfl;have p2:decide ((if v<0 then -v else v)<1000000000000000000000000000000)=true:=decide_eq_true (by split<;>omega);simp only[EV,aJ,bp,dJ,p1,p2,Int.reduceToNat]
 simp only[EV,aJ,dM,bX,e,dJ]
theorem Ff(a b:List Nat)(r:Bool)(ha:∀c∈a,c<1114112)(hb:∀c∈b,c<1114112)(hr:decide (a=b)=r)(h:List L3.PO):Pb (.str a) (.str b) h=.ok (.bl r) h:=by rw[vF a b h ha hb,hr]
theorem JN(k:Nat):F (k+1) .OD [.str wW]=.ok (.ins 0 []):=by show aJ (gw (F k)) 1 1 [.str wW]=_;have e:∀h,oq (.str wW) (.str [119,111,114,100]) h=.ok (.bl true) h:=fun h=>(BL _ _ _).trans (Ff _ _ _ (by decide) (by decide) (by decide) h);simp only[EV,aJ,gw,uR,e,dJ]
theorem JO(k:Nat):F (k+1) .OD [.str wN]=.ok (.ins 1 []):=by show aJ (gw (F k)) 1 1 [.str wN]=_;have e1:∀h,oq (.str wN) (.str [119,111,114,100]) h=.ok (.bl false) h:=fun h=>(BL _ _ _).trans (Ff _ _ _ (by decide) (by decide) (by decide) h);have e2:∀h,oq (.str wN) (.str [110,117,109,98,101,114]) h=.ok (.bl true) h:=fun h=>(BL _ _ _).trans (Ff _ _ _ (by decide) (by decide) (by decide) h);simp only[EV,aJ,gw,uR,e1,e2,dJ]
theorem Fm(k:Nat)(l:List Nat)(h1:1≤l.length)(h2:l.length≤40)(h:∀c∈l,c∈cD):F (k+4) .m_ [.ins 0 [],.str l]=.ok (.str l):=by
 have e:=pN k l h1 h2 h
 have e2:F (k+3) .k_ [.ins 0 [],.str l]=.ok (.str l):=by show aJ (cJ (F (k+2))) 2 2 [.ins 0 [],.str l]=_;simp only[EV,aJ,cJ,dJ]
 show aJ (dh (F (k+3))) 2 2 [.ins 0 [],.str l]=_;simp only[EV,aJ,dh,jy,gr,bX,e,e2,dJ]
theorem jI{v:Int}(h1: -1000000000000000000000000000000<v)(h2:v<1000000000000000000000000000000):v.natAbs.log2<1920:=by
 have:v.natAbs<2 ^ 100:=by
  have:(1000000000000000000000000000000:Nat)<2 ^ 100:=by decide
  omega
 by_cases q:v.natAbs=0
 ·rw[q];decide
 ·have:=(Nat.log2_lt q).mpr this;omega
theorem Fo(k:Nat)(v:Int)(h1: -1000000000000000000000000000000<v)(h2:v<1000000000000000000000000000000):F (k+4) .m_ [.ins 1 [],.int v]=.ok (.str (gN v)):=by
 have e:=my (k+1) v h1 h2
 have e2:F (k+3) .j8 [.ins 1 [],.int v]=.ok (.str (gN v)):=by show aJ (cy (F (k+2))) 2 2 [.ins 1 [],.int v]=_;have lg:=jI h1 h2;simp only[EV,aJ,cy,lg,dJ]
 show aJ (dh (F (k+3))) 2 2 [.ins 1 [],.int v]=_;simp only[EV,aJ,dh,jy,gr,bX,e,e2,dJ]
section
variable(k:Nat)(n:Int)(ps:List (List Nat)){d:List (PK×PV)}(hd:Oq d=true)(r:List PV)(x:PV)(h0:n<2000)(hl:ps.length<16777216)(hx:x.pure=true)(hr:ag r=true)
include hd h0 hx hr hl
theorem Ai(l:List Nat)(e:F (k+4) .found [x,.tup r]=.ok (.tup [.str l]))(h1:1≤l.length)(h2:l.length≤40)(h:∀c∈l,c∈cD):X_ (k+6) .w6 [.ref 1,.tup (x::r),.str wW] (hW n ps d)=.ok (.str l) (hW (n+1) (ps++ [l]) d):=by have c:=jF (k+3) n ps hd r x (.str l) h0 e hx hr rfl;have w:=jE (k+4) (n+1) ps hd hl l;have y:=JN (k+4);have f:=pN (k+2) l h1 h2 h;have g:=Fm (k+1) l h1 h2 h;show bn (dm (F (k+5)) (X_ (k+5)) _) 3 5 [.ref 1,.tup (x::r),.str wW] (hW n ps d)=_;simp only[EV,bn,dm,VR,S7,c,w,y,f,g,jy,lA,bX];exact oH _ _ _ _ _ hd rfl
theorem Dj(v:Int)(e:F (k+4) .found [x,.tup r]=.ok (.tup [.int v]))(h1: -1000000000000000000000000000000<v)(h2:v<1000000000000000000000000000000):X_ (k+6) .w6 [.ref 1,.tup (x::r),.str wN] (hW n ps d)=.ok (.int v) (hW (n+1) (ps++ [gN v]) d):=by have c:=jF (k+3) n ps hd r x (.int v) h0 e hx hr rfl;have w:=jE (k+4) (n+1) ps hd hl (gN v);have y:=JO (k+4);have f:=my (k+3) v h1 h2;have g:=Fo (k+1) v h1 h2;show bn (dm (F (k+5)) (X_ (k+5)) _) 3 5 [.ref 1,.tup (x::r),.str wN] (hW n ps d)=_;simp only[EV,bn,dm,VR,S7,c,w,y,f,g,jy,lA,bX];exact oH _ _ _ _ _ hd rfl
end
noncomputable def C_(d:List (PK×PV))(b:PV):PV:=.tup [.dct d,b]
theorem bf(d:List (PK×PV))(k k':PK)(v:PV):bj (br d k v) k'=if k'=k then some v else bj d k':=by
 have hit:∀l:List (PK×PV),(l.any fun kv=>decide (kv.1=k))=true→bj (l.map fun kv=>if kv.1=k then(kv.1,v)else kv) k'=if k'=k then some v else bj l k':=by
  intro l
  induction l with
  |nil=>intro h;cases h
  |cons a r ih=>
   intro h
   by_cases e:a.1=k
   ·by_cases e2:k'=k
    ·rw[if_pos e2];unfold bj;rw[List.map_cons,if_pos e,List.find?_cons_of_pos (by simp[e,e2])];rfl
    ·rw[if_neg e2]
     have miss:∀t:List (PK×PV),bj (t.map fun kv=>if kv.1=k then(kv.1,v)else kv) k'=bj t k':=by
      intro t
      induction t with
      |nil=>rfl
      |cons b t it=>
       unfold bj at it ⊢;rw[List.map_cons]
       by_cases f:b.1=k
       ·rw[if_pos f,List.find?_cons_of_neg (by simp[f];exact fun z=>e2 z.symm),List.find?_cons_of_neg (by simp[f];exact fun z=>e2 z.symm)];exact it
       ·rw[if_neg f]
        by_cases g:b.1=k'
        ·rw[List.find?_cons_of_pos (by simp[g]),List.find?_cons_of_pos (by simp[g])]
        ·rw[List.find?_cons_of_neg (by simp[g]),List.find?_cons_of_neg (by simp[g])];exact it
     exact miss (a::r)
   ·have h':(r.any fun kv=>decide (kv.1=k))=true:=by simpa[List.any_cons,e]using h
    have i2:=ih h';unfold bj at i2 ⊢;rw[List.map_cons,if_neg e]
    by_cases g:a.1=k'
    ·have:k'≠k:=fun z=>e (g.trans z);rw[if_neg this,List.find?_cons_of_pos (by simp[g]),List.find?_cons_of_pos (by simp[g])]
    ·rw[List.find?_cons_of_neg (by simp[g]),List.find?_cons_of_neg (by simp[g])];exact i2
 unfold br
 split
 ·rename_i h;exact hit d h
 ·rename_i h;unfold bj;rw[List.find?_append];have Zn:∀x∈d,x.1≠k:=fun x hx z=>h (List.any_eq_true.mpr ⟨x,hx,by simp[z]⟩)
  by_cases e:k'=k
  ·rw[if_pos e];have:d.find? (fun kv=>decide (kv.1=k'))=none:=List.find?_eq_none.mpr fun x hx=>by simp[e];exact Zn x hx
   rw[this,e];simp
  ·rw[if_neg e];have: [(k,v)].find? (fun kv=>decide (kv.1=k'))=none:=by simp;exact fun z=>e z.symm
   rw[this,Option.or_none]
theorem Kj(k:Nat)(x:List Nat)(r:List PV)(a:PV)(ref:List PV)(d:List (PK×PV))(b:PV)(e:bj d (.inr x)=some (.tup (a::ref)))(hd:(PV.dct d).pure=true)(hr:ag r=true)(hf:ag (a::ref)=true)(hl:ref.length+r.length≤1000):F (k+1) .m7 [.tup (.str x::r),C_ d b]=.ok (.tup (a::ref++r)):=by
 show aJ (fE (F k)) 2 2 [.tup (.str x::r),.tup [.dct d,b]]=_;have q:(PV.tup (a::ref)).pure=true:=by simpa[PV.pure]using hf
 have ad:bo (.tup (a::ref)) (.tup r) []=.ok (.tup (a::ref++r)) []:=by show(if(a::ref).isEmpty=false∧(a::ref).length+r.length≤sizeLine then Res.ok (PV.tup (a::ref++r)) []else .bad)=_;rw[if_pos ⟨rfl,Nat.le_trans (by rw[List.length_cons];omega:(a::ref).length+r.length≤1001) (by decide)⟩]
 simp only[EV,aJ,fE,Td,rf,aq _ hd,e,aq _ q,ad];refine dE _ ?_;rw[PV.pure]
 have pa:∀(l m:List PV),ag l=true→ag m=true→ag (l++m)=true:=fun l m hl hm=>by
  induction l with
  |nil=>exact hm
  |cons x t ih=>rw[ag,Bool.and_eq_true]at hl;rw[List.cons_append,ag,hl.1,ih hl.2];rfl
 exact pa _ _ hf hr
theorem aT:∀(d:List (PK×PV))(k:PK)(v:PV),aE d=true→v.pure=true→aE (br d k v)=true:=by
 intro d k v hd hv
 have mp:∀l:List (PK×PV),aE l=true→aE (l.map fun kv=>if kv.1=k then(kv.1,v)else kv)=true:=by
  intro l
  induction l with
  |nil=>intro _;rfl
  |cons a r ih=>
   intro h;obtain⟨a1,a2⟩:=a;rw[aE,Bool.and_eq_true]at h;rw[List.map_cons]
   by_cases e:a1=k
   ·rw[if_pos e,aE,hv,ih h.2];rfl
   ·rw[if_neg e,aE,h.1,ih h.2];rfl
 have ap:∀l:List (PK×PV),aE l=true→aE (l++ [(k,v)])=true:=by
  intro l
  induction l with
  |nil=>intro _;show aE [(k,v)]=true;rw[aE,hv];rfl
  |cons a r ih=>intro h;obtain⟨a1,a2⟩:=a;rw[aE,Bool.and_eq_true]at h;rw[List.cons_append,aE,h.1,ih h.2];rfl
 unfold br
 split
 ·exact mp d hd
 ·exact ap d hd
theorem Aj{d:List (PK×PV)}(hd:(PV.dct d).pure=true)(k:PK){v:PV}(hv:v.pure=true):(PV.dct (br d k v)).pure=true:=by rw[PV.pure]at hd ⊢;exact aT d k v hd hv
theorem xp(k:Nat)(x:List Nat)(m:List PV)(d:List (PK×PV))(b:PV)(hd:(PV.dct d).pure=true)(hb:b.pure=true)(hm:ag m=true)(hl:d.length≤1000):F (k+1) .o8 [.str x,.tup m,C_ d b]=.ok (C_ (br d (.inr x) (.tup m)) b):=by
 have q:(PV.tup m).pure=true:=by simpa[PV.pure]using hm
 have l2:d.length<16777216:=Nat.lt_of_le_of_lt hl (by decide);show aJ (cG (F k)) 3 4 [.str x,.tup m,.tup [.dct d,b]]=_;simp only[Res.Ov,List.getElem?_cons_zero,List.getElem?_cons_succ,List.set_cons_zero,List.set_cons_succ,List.map_cons,List.map_nil,List.append_nil,List.nil_append,List.cons_append,if_true,if_false,reduceIte,Bool.not_true,Bool.not_false,Bool.true_and,Bool.false_and,Bool.and_true,Bool.false_or,Bool.or_false,Bool.not_not,eq_self_iff_true,true_and,and_true,Bool.false_eq_true,reduceCtorEq,List.length_cons,List.length_nil,List.replicate,Nat.sub_self,Nat.zero_add,Option.isSome_some,Option.isSome_none,Nat.reduceAdd,Nat.reduceLeDiff,Int.reduceLT,Int.reduceLE,decide_true,decide_false,szl,Int.reduceNeg,Int.reducePow,Nat.reducePow,Int.reduceAdd,Int.reduceMul,Int.reduceSub,Nat.reduceSub,and_self,Nat.reduceMul,Nat.reduceEqDiff,kv0,kv1,kv2,kv3,kv4,kv5,kv6,kv7,kv8,kv9,MT,MS,MR,MQ,MP,MO,MN,MM,ML,MK,NM,Lh,Li,Lg,Lz,Le,Jd,Ey,Lw,IK,Il,IM,Ih,IA,Ij,IE,Bq,IG,IF,Lr,IC,IB,BJ,Bp,Np,Lf,Lp,Ez,Fc,Em,Ix,Lk,Eo,Lu,En,Iz,Ic,Iw,yL,Ll,EA,Bu,IJ,Fa,Es,Kl,Kk,GN,Et,Iy,Bo,II,EB,Ig,ID,Er,ks1,ks2,ks3,ks4,ks5,ks6,ks7,ks9,Nk,Nj,Ni,Nh,Ng,Nf,Nd,Nc,Nb,Na,vR,yX,Eu,IH,BK,Je,Jq,LV,Jn,Jo,Jm,Jp,Js,Ju,Jr,Fh,GM,HZ,KS,KW,Jw,Nv,LA,Gg,Gh,qr,Lc,KZ,Ge,Ib,Ei,GD,HP,Ea,LF,Md,Kh,CS,CQ,CT,EF,ER,IY,EO,ES,BB,yW,AW,JT,vU,vW,ut,uq,ur,vY,uw,uA,vX,uv,uu,vZ,uz,ux,uy,CF,Bm,Iv,Iu,Ir,Ld,Fb,Ep,Bs,El,Gz,La,Fi,LD,LG,Fw,nH,LU,GS,Ik,IL,Lx,Nl,Nq,NC,Bt,Ji,Ie,Km,Br,LZ,Jt,AV,DY,HX,HY,HR,DX,Eh,Eg,HQ,LN,DW,HU,MJ,MZ,MI,MY,MH,MX,MG,MW,MF,MV,ME,MU,aJ,cG,Td,at1,aq _ hd,aq _ q,aq _ hb,l2,uD _ (show aE (br d (.inr x) (.tup m))=true from aT d _ _ (by rw[PV.pure]at hd;exact hd) q)]
 refine dE _ ?_;rw[PV.pure,ag,ag,hb,Aj hd _ q];rfl
theorem ff{g:Gx}{b:Sx}{p:PV}{r:List PV}{ρ ρ1 ρ2:Ev}{h h2:List PO}(hg:g p ρ=some ρ1)(hb:b ρ1 h=.nx ρ2 h2):bD g b (p::r) ρ h=bD g b r ρ2 h2:=by simp only[bD,hg,hb]
abbrev Tr:=List Nat×List PV×List PV
def hnd(acc:List (PK×PV)):List Tr→List (PK×PV)
 |[]=>acc
 |t::r=>hnd (br acc (.inr t.1) (.tup t.2.2)) r
theorem qC(k:Nat)(a b c:Option PV)(S:PV)(hS:S.pure=true):∀(ts:List Tr)(acc:List (PK×PV))(x y:Option PV),(∀t∈ts,F k .m7 [.tup t.2.1,S]=.ok (.tup t.2.2)∧ag t.2.1=true∧ag t.2.2=true)→acc.length+ts.length≤1000→
  ∃x' y',bD aaY (cV (F k)) (V2 (ts.map fun t=>PV.str t.1) (ts.map fun t=>PV.tup t.2.1)) [some (.ref 0),b,c,some S,x,y] [.dct acc]=.nx [some (.ref 0),b,c,some S,x',y'] [.dct (hnd acc ts)]
 |[],acc,x,y,_,_=>⟨x,y,rfl⟩
 |t::r,acc,x,y,h,hl=>by
  obtain⟨e,p1,p2⟩:=h t List.mem_cons_self;have l2:acc.length<16777216:=Nat.lt_of_le_of_lt (by rw[List.length_cons]at hl;omega:acc.length≤1000) (by decide)
  have pl:(br acc (.inr t.1) (.tup t.2.2)).length≤acc.length+1:=by
   unfold br
   split
   ·rw[List.length_map];omega
   ·rw[List.length_append];exact Nat.le_refl _
  obtain⟨x',y',lp⟩:=qC k a b c S hS r (br acc (.inr t.1) (.tup t.2.2)) (some (.str t.1)) (some (.tup t.2.1)) (fun u hu=>h u (List.mem_cons_of_mem _ hu)) (by rw[List.length_cons]at hl;omega);refine⟨x',y',?_⟩;rw[List.map_cons,List.map_cons,V2];have q:(PV.tup t.2.1).pure=true:=by simpa[PV.pure]using p1
  have q2:(PV.tup t.2.2).pure=true:=by simpa[PV.pure]using p2
  have z:∀hh,bR (F k .m7) [.tup t.2.1,S] hh=.ok (.tup t.2.2) hh:=fun hh=>bh hh (by simp[ag,q,hS]) e;refine(ff rfl ?_).trans lp;simp only[EV,cV,aq _ q,aq _ hS,z,l2]
theorem Bv(n:Nat):∀d:List (PK×PV),aE d=true→(d.all fun x=>SN n x.2)=true
 |[],_=>rfl
 |(a,b)::r,h=>by rw[aE,Bool.and_eq_true]at h;rw[List.all_cons,Bv n r h.2,Bool.and_true];exact kY h.1
theorem fD:∀(ts:List Tr)(acc:List (PK×PV)),aE acc=true→(∀t∈ts,ag t.2.2=true)→aE (hnd acc ts)=true
 |[],_,h,_=>h
 |t::r,acc,h,g=>fD r _ (aT acc _ _ h (by have:=g t List.mem_cons_self;simpa[PV.pure]using this)) fun u hu=>g u (List.mem_cons_of_mem _ hu)
def Xr(k:Nat)(S:PV)(ts:List Tr):Prop:=∀t∈ts,F k .m7 [.tup t.2.1,S]=.ok (.tup t.2.2)∧ag t.2.1=true∧ag t.2.2=true
noncomputable def Sq(ts:List Tr):PV:=.tup (ts.map fun t=>PV.str t.1)
noncomputable def Ue(ts:List Tr):PV:=.tup (ts.map fun t=>PV.tup t.2.1)
theorem dF:∀ts:List Tr,(Sq ts).pure=true
 |[]=>rfl
 |_::r=>by have:=dF r;unfold Sq at this ⊢;rw[PV.pure]at this ⊢;rw[List.map_cons,ag,this];rfl
theorem cZ{k:Nat}{S:PV}:∀{ts:List Tr},Xr k S ts→(Ue ts).pure=true
 |[],_=>rfl
 |t::r,h=>by
  have:=cZ (ts:=r) fun u hu=>h u (List.mem_cons_of_mem _ hu);have q:(PV.tup t.2.1).pure=true:=by have:=(h t List.mem_cons_self).2.1;simpa[PV.pure]using this
  unfold Ue at this ⊢;rw[PV.pure]at this ⊢;rw[List.map_cons,ag,this,q];rfl
theorem IX(k:Nat)(S:PV)(hS:S.pure=true)(ts:List Tr)(acc:List (PK×PV))(h:Xr k S ts)(ha:aE acc=true)(hl:acc.length+ts.length≤1000):X_ (k+1) .t_ [.ref 0,Sq ts,Ue ts,S] [.dct acc]=.ok (.ref 0) [.dct (hnd acc ts)]:=by
 obtain⟨x',y',lp⟩:=qC k none (some (Sq ts)) (some (Ue ts)) S hS ts acc none none h hl;show bn (cB (F k)) 4 6 [.ref 0,Sq ts,Ue ts,S] [.dct acc]=_;have z:∀hh,zq [Sq ts,Ue ts] hh=.ok (V2 (ts.map fun t=>PV.str t.1) (ts.map fun t=>PV.tup t.2.1)) hh:=fun hh=>rfl;simp only[EV,bn,cB,aq _ (dF ts),aq _ (cZ h),z,lp]
 have e:([PO.dct (hnd acc ts)].take 1).all (VJ 1)=true:=by show((hnd acc ts).all (fun x=>SN 1 x.2)&&true)=true;rw[Bv 1 _ (fD ts acc ha fun t ht=>(h t ht).2.2)];rfl
 show uF 1 (.ref 0) [.dct (hnd acc ts)]=_;unfold uF;rw[if_pos (show SN 1 (PV.ref 0)=true from rfl)];unfold sA;rw[e];rfl
theorem IW(k:Nat)(S hs bd a b c e m nn:PV)(hS:S.pure=true)(ts:List Tr)(h:Xr k S ts)(hl:ts.length≤1000)(p1:hs.pure=true)(p2:bd.pure=true)(nb:oB bd=false)(fz:a.pure=true∧b.pure=true∧c.pure=true∧e.pure=true∧m.pure=true∧nn.pure=true):
  F (k+2) .v8 [.tup [a,b,Ue ts,hs,bd],.tup [c,e,Sq ts,m,nn],S]=.ok (C_ (hnd [] ts) (.tup [hs,bd,S])):=by
 have w:=IX k S hS ts [] h rfl (by rw[List.length_nil];omega);show aJ (bZ (F (k+1)) (X_ (k+1))) 3 4 [.tup [a,b,Ue ts,hs,bd],.tup [c,e,Sq ts,m,nn],S]=_;have pk:=fD ts [] rfl fun t ht=>(h t ht).2.2;simp only[EV,aJ,bZ,at2,Yz,YZ,aq _ hS,aq _ p1,aq _ p2,aq _ (dF ts),aq _ (cZ h),nb,w,uD _ pk];refine dE _ ?_;simp only[PV.pure,ag,pk,p1,p2,hS];rfl
theorem EG(k:Nat)(S hs a b c e m nn:PV)(hS:S.pure=true)(ts:List Tr)(h:Xr k S ts)(hl:ts.length≤1000):
  F (k+2) .v8 [.tup [a,b,Ue ts,hs,.non],.tup [c,e,Sq ts,m,nn],S]=.ok (C_ (hnd [] ts) .non):=by
 have w:=IX k S hS ts [] h rfl (by rw[List.length_nil];omega);show aJ (bZ (F (k+1)) (X_ (k+1))) 3 4 [.tup [a,b,Ue ts,hs,.non],.tup [c,e,Sq ts,m,nn],S]=_;have pk:=fD ts [] rfl fun t ht=>(h t ht).2.2;simp only[EV,aJ,bZ,at2,Yz,YZ,aq _ hS,aq _ (dF ts),aq _ (cZ h),Nu,w,uD _ pk];refine dE _ ?_;simp only[PV.pure,ag,pk];rfl
theorem EH(k:Nat)(d0:List (PK×PV))(b0 hs bd:PV)(D:List (PK×PV))(p0:aE d0=true)(pb:b0.pure=true)(ps:hs.pure=true)(pd:bd.pure=true)(pD:aE D=true)(ts:List Tr)(hh:hs=Sq ts)(h:Xr k (C_ D (.tup [hs,bd,C_ d0 b0])) ts)(hl:d0.length+ts.length≤1000):
  F (k+2) .u6 [Ue ts,C_ D (.tup [hs,bd,C_ d0 b0])]=.ok (C_ (hnd d0 ts) b0):=by
 have hS:(C_ D (.tup [hs,bd,C_ d0 b0])).pure=true:=by simp only[C_,PV.pure,ag,pD,ps,pd,p0,pb];rfl
 have q1:(PV.tup [hs,bd,C_ d0 b0]).pure=true:=by simp only[C_,PV.pure,ag,ps,pd,p0,pb];rfl
 have q2:(C_ d0 b0).pure=true:=by simp only[C_,PV.pure,ag,p0,pb];rfl
 have q3:(PV.dct d0).pure=true:=by rw[PV.pure];exact p0
 have w:=IX k _ hS ts d0 h p0 hl;have pk:=fD ts d0 p0 fun t ht=>(h t ht).2.2;subst hh;have i1:∀g,B_ (C_ D (.tup [Sq ts,bd,C_ d0 b0])) (.int 1) g=.ok (.tup [Sq ts,bd,C_ d0 b0]) g:=fun g=>by show Res.ok (ao g _) g=_;rw[aq g q1]
 have i2:∀g,B_ (C_ d0 b0) (.int 0) g=.ok (.dct d0) g:=fun g=>rfl;have i3:∀g,B_ (C_ d0 b0) (.int 1) g=.ok b0 g:=fun g=>by show Res.ok (ao g b0) g=_;rw[aq g pb]
 show aJ (cH (F (k+1)) (X_ (k+1))) 2 4 [Ue ts,C_ D (.tup [Sq ts,bd,C_ d0 b0])]=_;simp only[EV,aJ,cH,Td,at1,at2,i1,i2,i3,aq _ hS,aq _ q1,aq _ q2,aq _ (dF ts),aq _ (cZ h),w,uD _ pk];refine dE _ ?_;simp only[PV.pure,ag,pk,pb];rfl
section
variable{d:List (PK×PV)}(hd:Oq d=true)
noncomputable def Y8:PV:=.str [116,101,120,116]
noncomputable def W9:PV:=.str [112,108,97,99,101]
noncomputable def Vr:PV:=.str [108,111,111,112]
noncomputable def Xn:PV:=.str [99,104,111,105,99,101]
noncomputable def Uv:PV:=.str [117,115,101]
noncomputable def YD:PV:=.str [98,111,100,121]
theorem dw(a b:List Nat)(r:Bool)(h1:∀c∈a,c<1114112)(h2:∀c∈b,c<1114112)(e:decide (a=b)=r)(h:List PO):Pb (.str a) (.str b) h=.ok (.bl r) h:=Ff a b r h1 h2 e h
include hd
theorem yB(k:Nat)(n:Int)(ps:List (List Nat))(hl:ps.length<16777216)(t:List Nat)(S:PV):X_ (k+2) .d8 [.ref 0,.tup [Y8,.str t],S] (hW n ps d)=.ok .non (hW n (ps++ [t]) d):=by have w:=jE k n ps hd hl t;show bn (ay (F (k+1)) (X_ (k+1))) 3 7 [.ref 0,.tup [Y8,.str t],S] (hW n ps d)=_;have q:∀h,Pb (.str [116,101,120,116]) (.str [116,101,120,116]) h=.ok (.bl true) h:=dw _ _ _ (by decide) (by decide) rfl;simp only[EV,bn,ay,Y8,Td,at1,Vn,Vu,S7,lu,q,w];exact lB _ _ _ _ _ hd
theorem ow(k:Nat)(n n2:Int)(ps Qd:List (List Nat))(path ref:List PV)(w:List Nat)(v S:PV)(hS:S.pure=true)(hp:ag path=true)(hr:ag ref=true)(e1:F (k+1) .m7 [.tup path,S]=.ok (.tup ref))(e2:X_ (k+1) .w6 [.ref 1,.tup ref,.str w] (hW n ps d)=.ok v (hW n2 Qd d)):
  X_ (k+2) .d8 [.ref 0,.tup [W9,.tup path,.str w],S] (hW n ps d)=.ok .non (hW n2 Qd d):=by
 show bn (ay (F (k+1)) (X_ (k+1))) 3 7 [.ref 0,.tup [W9,.tup path,.str w],S] (hW n ps d)=_;have q1:∀h,Pb (.str [112,108,97,99,101]) (.str [116,101,120,116]) h=.ok (.bl false) h:=dw _ _ _ (by decide) (by decide) rfl;have q2:∀h,Pb (.str [112,108,97,99,101]) (.str [112,108,97,99,101]) h=.ok (.bl true) h:=dw _ _ _ (by decide) (by decide) rfl;have pp:(PV.tup path).pure=true:=by rw[PV.pure];exact hp
 have z:∀h,bR (F (k+1) .m7) [.tup path,S] h=.ok (.tup ref) h:=fun h=>bh h (by simp[ag,pp,hS]) e1;simp only[EV,bn,ay,W9,Td,at1,at2,Vn,Vu,S7,lu,q1,q2,aq _ pp,aq _ hS,z,e2];exact lB _ _ _ _ _ hd
end
def out(o:Option (List Nat))(n:Int)(ps:List (List Nat))(d:List (PK×PV)):Res PV:=match o with
 |none=>.ok .non (hW n ps d)
 |some w=>.exc (xf w) (hW n ps d)
theorem Nr(n:Int)(ps:List (List Nat)){d:List (PK×PV)}{x:List Nat}{v:PV}(e:bj d (.inr x)=some v)(p:v.pure=true):B_ (.ref 3) (.str x) (hW n ps d)=.ok v (hW n ps d):=by show(match bj d (.inr x)with|some v=>Res.ok (ao (hW n ps d) v) (hW n ps d)|none=>.bad)=_;rw[e];dsimp only;rw[aq _ p]
def Jg(L:Nat)(r:SR):Res PV:=match r with
 |.nx _ h1=>sA L .non h1
 |.rt v h1=>uF L v h1
 |.exc e h1=>za L e h1
 |_=>.bad
theorem gW(f:Sx)(np n:Nat)(ps:List PV)(h:List PO):bn f np n ps h=if ps.length=np then Jg h.length (f (ps.map some++List.replicate (n - ps.length) none) h)else .bad:=rfl
theorem lv{d:List (PK×PV)}(hd:Oq d=true)(n n2:Int)(ps Qd:List (List Nat))(ρ:Ev)(o:Option (List Nat)):Jg (hW n ps d).length (kDr ρ (out o n2 Qd d))=out o n2 Qd d:=by
 cases o with
 |none=>exact lB _ _ _ _ _ hd
 |some w=>exact uM _ _ _ _ _ hd rfl
section
variable{d:List (PK×PV)}(hd:Oq d=true)
include hd
theorem ue(k:Nat)(n n1 n2:Int)(ps Qd:List (List Nat))(path ref ys ns:List PV)(S:PV)(b:Bool)(o:Option (List Nat))(hS:S.pure=true)(hp:ag path=true)(hr:ag ref=true)(hy:ag ys=true)(hn:ag ns=true)(e1:F (k+1) .m7 [.tup path,S]=.ok (.tup ref))
  (e2:X_ (k+1) .h_ [.ref 1,.tup ref] (hW n ps d)=.ok (.bl b) (hW n1 ps d)) (e3:X_ (k+1) .b_ [.ref 0,.tup (if b=true then ys else ns),S] (hW n1 ps d)=out o n2 Qd d):
  X_ (k+2) .d8 [.ref 0,.tup [Xn,.tup path,.tup ys,.tup ns],S] (hW n ps d)=out o n2 Qd d:=by
 show bn (ay (F (k+1)) (X_ (k+1))) 3 7 [.ref 0,.tup [Xn,.tup path,.tup ys,.tup ns],S] (hW n ps d)=_;rw[gW];have q1:∀h,Pb (.str [99,104,111,105,99,101]) (.str [116,101,120,116]) h=.ok (.bl false) h:=dw _ _ _ (by decide) (by decide) rfl;have q2:∀h,Pb (.str [99,104,111,105,99,101]) (.str [112,108,97,99,101]) h=.ok (.bl false) h:=dw _ _ _ (by decide) (by decide) rfl;have q3:∀h,Pb (.str [99,104,111,105,99,101]) (.str [108,111,111,112]) h=.ok (.bl false) h:=dw _ _ _ (by decide) (by decide) rfl;have q4:∀h,Pb (.str [99,104,111,105,99,101]) (.str [99,104,111,105,99,101]) h=.ok (.bl true) h:=dw _ _ _ (by decide) (by decide) rfl;have pp:(PV.tup path).pure=true:=by rw[PV.pure];exact hp
 have py:(PV.tup ys).pure=true:=by rw[PV.pure];exact hy
 have pn:(PV.tup ns).pure=true:=by rw[PV.pure];exact hn
 have z:∀h,bR (F (k+1) .m7) [.tup path,S] h=.ok (.tup ref) h:=fun h=>bh h (by simp[ag,pp,hS]) e1
 cases b with
 |true=>have e3:X_ (k+1) .b_ [.ref 0,.tup ys,S] (hW n1 ps d)=out o n2 Qd d:=e3;simp only[EV,ay,Xn,Td,at1,at2,Yz,Vn,Vu,S7,lu,q1,q2,q3,q4,aq _ pp,aq _ py,aq _ pn,aq _ hS,z,e2,e3];exact lv hd _ _ _ _ _ _
 |false=>have e3:X_ (k+1) .b_ [.ref 0,.tup ns,S] (hW n1 ps d)=out o n2 Qd d:=e3;simp only[EV,ay,Xn,Td,at1,at2,Yz,Vn,Vu,S7,lu,q1,q2,q3,q4,aq _ pp,aq _ py,aq _ pn,aq _ hS,z,e2,e3];exact lv hd _ _ _ _ _ _
theorem ud(k:Nat)(n n2:Int)(ps Qd:List (List Nat))(x:List Nat)(pt hs bd a b c m S S2:PV)(l:List PV)(o:Option (List Nat))(hS:S.pure=true)(h2:S2.pure=true)(p1:pt.pure=true)(p2:hs.pure=true)(p3:bd.pure=true)(pl:ag l=true)(pc:(PV.tup [a,b,c,m,.tup l]).pure=true)(ev:bj d (.inr x)=some (.tup [a,b,c,m,.tup l]))
  (e1:F (k+1) .v8 [.tup [Uv,.str x,pt,hs,bd],.tup [a,b,c,m,.tup l],S]=.ok S2) (e3:X_ (k+1) .b_ [.ref 0,.tup l,S2] (hW n ps d)=out o n2 Qd d):
  X_ (k+2) .d8 [.ref 0,.tup [Uv,.str x,pt,hs,bd],S] (hW n ps d)=out o n2 Qd d:=by
 show bn (ay (F (k+1)) (X_ (k+1))) 3 7 [.ref 0,.tup [Uv,.str x,pt,hs,bd],S] (hW n ps d)=_;rw[gW];have q1:∀h,Pb (.str [117,115,101]) (.str [116,101,120,116]) h=.ok (.bl false) h:=dw _ _ _ (by decide) (by decide) rfl;have q2:∀h,Pb (.str [117,115,101]) (.str [112,108,97,99,101]) h=.ok (.bl false) h:=dw _ _ _ (by decide) (by decide) rfl;have q3:∀h,Pb (.str [117,115,101]) (.str [108,111,111,112]) h=.ok (.bl false) h:=dw _ _ _ (by decide) (by decide) rfl;have q4:∀h,Pb (.str [117,115,101]) (.str [99,104,111,105,99,101]) h=.ok (.bl false) h:=dw _ _ _ (by decide) (by decide) rfl;have q5:∀h,Pb (.str [117,115,101]) (.str [117,115,101]) h=.ok (.bl true) h:=dw _ _ _ (by decide) (by decide) rfl;have pn:(PV.tup [Uv,.str x,pt,hs,bd]).pure=true:=by simp only[PV.pure,ag,Uv,p1,p2,p3];rfl
 have pp:(PV.tup l).pure=true:=by rw[PV.pure];exact pl
 have z:∀h,bR (F (k+1) .v8) [.tup [.str [117,115,101],.str x,pt,hs,bd],.tup [a,b,c,m,.tup l],S] h=.ok S2 h:=fun h=>bh h (by simp only[ag,pc,hS];simp only[Uv]at pn;rw[pn];rfl) e1;simp only[EV,ay,Uv,Td,at1,YZ,Vn,Vu,S7,Gi,q1,q2,q3,q4,q5,Nr _ _ ev pc,aq _ pp,aq _ hS,z,e3];exact lv hd _ _ _ _ _ _
theorem yD(k:Nat)(n n2:Int)(ps Qd:List (List Nat))(pt a c S2:PV)(D:List (PK×PV))(l:List PV)(o:Option (List Nat))(hS:(C_ D (.tup [a,.tup l,c])).pure=true)(p1:pt.pure=true)(pl:ag l=true)(pa:a.pure=true)(pcc:c.pure=true)(h2:S2.pure=true)
  (e1:F (k+1) .u6 [pt,C_ D (.tup [a,.tup l,c])]=.ok S2) (e3:X_ (k+1) .b_ [.ref 0,.tup l,S2] (hW n ps d)=out o n2 Qd d):
  X_ (k+2) .d8 [.ref 0,.tup [YD,pt],C_ D (.tup [a,.tup l,c])] (hW n ps d)=out o n2 Qd d:=by
 show bn (ay (F (k+1)) (X_ (k+1))) 3 7 [.ref 0,.tup [YD,pt],C_ D (.tup [a,.tup l,c])] (hW n ps d)=_;rw[gW];have q1:∀h,Pb (.str [98,111,100,121]) (.str [116,101,120,116]) h=.ok (.bl false) h:=dw _ _ _ (by decide) (by decide) rfl;have q2:∀h,Pb (.str [98,111,100,121]) (.str [112,108,97,99,101]) h=.ok (.bl false) h:=dw _ _ _ (by decide) (by decide) rfl;have q3:∀h,Pb (.str [98,111,100,121]) (.str [108,111,111,112]) h=.ok (.bl false) h:=dw _ _ _ (by decide) (by decide) rfl;have q4:∀h,Pb (.str [98,111,100,121]) (.str [99,104,111,105,99,101]) h=.ok (.bl false) h:=dw _ _ _ (by decide) (by decide) rfl;have q5:∀h,Pb (.str [98,111,100,121]) (.str [117,115,101]) h=.ok (.bl false) h:=dw _ _ _ (by decide) (by decide) rfl;have pp:(PV.tup l).pure=true:=by rw[PV.pure];exact pl
 have pb:(PV.tup [a,.tup l,c]).pure=true:=by simp only[PV.pure,ag,pa,pcc,pl];rfl
 have i1:∀g,B_ (C_ D (.tup [a,.tup l,c])) (.int 1) g=.ok (.tup [a,.tup l,c]) g:=fun g=>by show Res.ok (ao g _) g=_;rw[aq g pb]
 have z:∀h,bR (F (k+1) .u6) [pt,C_ D (.tup [a,.tup l,c])] h=.ok S2 h:=fun h=>bh h (by simp only[ag,p1,hS];rfl) e1;simp only[EV,ay,YD,Td,at1,Vn,Vu,S7,q1,q2,q3,q4,q5,i1,aq _ pp,aq _ hS,aq _ pb,aq _ p1,z,e3];exact lv hd _ _ _ _ _ _
end
def DO(o:Option (List Nat))(ρ:Ev)(n:Int)(ps:List (List Nat))(d:List (PK×PV)):SR:=match o with
 |none=>.nx ρ (hW n ps d)
 |some w=>.exc (xf w) (hW n ps d)
inductive Lo(K:Nat)(d:List (PK×PV))(S:PV):List PV→Int→List (List Nat)→Option (List Nat)→Int→List (List Nat)→Prop
 |nil {n ps}:Lo K d S [] n ps none n ps
 |cons {nd r n ps n1 S5 o n2 Qd} (p:nd.pure=true) (e:X_ K .d8 [.ref 0,nd,S] (hW n ps d)=out none n1 S5 d) (t:Lo K d S r n1 S5 o n2 Qd):Lo K d S (nd::r) n ps o n2 Qd
 |stop {nd r n ps n1 S5 w} (p:nd.pure=true) (e:X_ K .d8 [.ref 0,nd,S] (hW n ps d)=out (some w) n1 S5 d):Lo K d S (nd::r) n ps (some w) n1 S5
theorem xm{g:Gx}{b:Sx}{p e:PV}{r:List PV}{ρ ρ1:Ev}{h h2:List PO}(hg:g p ρ=some ρ1)(hb:b ρ1 h=.exc e h2):bD g b (p::r) ρ h=.exc e h2:=by simp only[bD,hg,hb]
section
variable{d:List (PK×PV)}
theorem Ej{K:Nat}{S:PV}(hS:S.pure=true)(a:PV){l:List PV}{n n2:Int}{ps Qd:List (List Nat)}{o:Option (List Nat)}(h:Lo K d S l n ps o n2 Qd):∀x,∃x',bD (PL 3) (bE (F K) (X_ K)) l [some (.ref 0),some a,some S,x] (hW n ps d)=DO o [some (.ref 0),some a,some S,x'] n2 Qd d:=by
 induction h with
 |nil=>intro x;exact⟨x,rfl⟩
 |@cons nd r n ps n1 S5 o n2 Qd p e t ih=>intro x;obtain⟨x',lp⟩:=ih (some nd);refine⟨x',(ff rfl ?_).trans lp⟩;simp only[EV,bE,Vn,Vu,aq _ p,aq _ hS,e,out]
 |@stop nd r n ps n1 S5 w p e=>intro x;refine⟨x,xm rfl ?_⟩;simp only[EV,bE,Vn,Vu,aq _ p,aq _ hS,e,out]
theorem uH(hd:Oq d=true)(n n2:Int)(ps Qd:List (List Nat))(ρ:Ev)(o:Option (List Nat)):Jg (hW n ps d).length (DO o ρ n2 Qd d)=out o n2 Qd d:=by
 cases o with
 |none=>exact lB _ _ _ _ _ hd
 |some w=>exact uM _ _ _ _ _ hd rfl
theorem yA(hd:Oq d=true){K:Nat}{S:PV}(hS:S.pure=true){l:List PV}(hl:ag l=true){n n2:Int}{ps Qd:List (List Nat)}{o:Option (List Nat)}(h:Lo K d S l n ps o n2 Qd):X_ (K+1) .b_ [.ref 0,.tup l,S] (hW n ps d)=out o n2 Qd d:=by obtain⟨x',lp⟩:=Ej hS (.tup l) h none;show bn (bH (F K) (X_ K)) 3 4 [.ref 0,.tup l,S] (hW n ps d)=_;rw[gW];simp only[EV,bH,aq _ (show(PV.tup l).pure=true by rw[PV.pure];exact hl),lp];exact uH hd _ _ _ _ _ _
inductive Rd(K:Nat)(d:List (PK×PV))(x:List Nat)(nodes:List PV)(bt:List Nat)(S:PV):Nat→List PV→Int→List (List Nat)→Option (List Nat)→Int→List (List Nat)→Prop
 |nil {i n ps}:Rd K d x nodes bt S i [] n ps none n ps
 |cons {i v r n ps n1 S5 o n2 Qd} (S1:PV) (p:v.pure=true) (p1:S1.pure=true) (hn:n<2000) (hl:ps.length<16777216) (e1:F K .o8 [.str x,.tup [v],S]=.ok S1) (e:X_ K .b_ [.ref 0,.tup nodes,S1] (hW (n+1) (if i>0 then ps++ [bt]else ps) d)=out none n1 S5 d) (t:Rd K d x nodes bt S (i+1) r n1 S5 o n2 Qd):Rd K d x nodes bt S i (v::r) n ps o n2 Qd
 |stop {i v r n ps n1 S5 w} (S1:PV) (p:v.pure=true) (p1:S1.pure=true) (hn:n<2000) (hl:ps.length<16777216) (e1:F K .o8 [.str x,.tup [v],S]=.ok S1) (e:X_ K .b_ [.ref 0,.tup nodes,S1] (hW (n+1) (if i>0 then ps++ [bt]else ps) d)=out (some w) n1 S5 d):Rd K d x nodes bt S i (v::r) n ps (some w) n1 S5
theorem Df(hd:Oq d=true){k:Nat}{x bt:List Nat}{nodes path:List PV}{S:PV}(hS:S.pure=true)(hn:ag nodes=true)(hp:ag path=true)(tv:PV){i:Nat}{l:List PV}{n n2:Int}{ps Qd:List (List Nat)}{o:Option (List Nat)}(h:Rd (k+2) d x nodes bt S i l n ps o n2 Qd):
  ∀u y,∃u' y',bD aaY (bw (F (k+2)) (X_ (k+2))) (VP i l) [some (.ref 0),some (.tup [Vr,.str x,.tup path,.tup nodes,.str bt]),some S,some tv,u,y] (hW n ps d)=DO o [some (.ref 0),some (.tup [Vr,.str x,.tup path,.tup nodes,.str bt]),some S,some tv,u',y'] n2 Qd d:=by
 have pn:(PV.tup nodes).pure=true:=by rw[PV.pure];exact hn
 have body:∀(i:Nat)(v S1:PV)(n n1:Int)(ps S5:List (List Nat))(o:Option (List Nat)),v.pure=true→S1.pure=true→n<2000→ps.length<16777216→F (k+2) .o8 [.str x,.tup [v],S]=.ok S1→X_ (k+2) .b_ [.ref 0,.tup nodes,S1] (hW (n+1) (if i>0 then ps++ [bt]else ps) d)=out o n1 S5 d→
   bw (F (k+2)) (X_ (k+2)) [some (.ref 0),some (.tup [Vr,.str x,.tup path,.tup nodes,.str bt]),some S,some tv,some (.int i),some v] (hW n ps d)=DO o [some (.ref 0),some (.tup [Vr,.str x,.tup path,.tup nodes,.str bt]),some S,some tv,some (.int i),some v] n1 S5 d:=by
  intro i v S1 n n1 ps S5 o pv p1 h0 hl e1 e;have rr:=yq k n ps hd (i:Int) bt h0 hl
  have ci:(if(i:Int)>0 then ps++ [bt]else ps)=(if i>0 then ps++ [bt]else ps):=by
   by_cases z:i>0
   ·rw[if_pos z,if_pos (by omega)]
   ·rw[if_neg z,if_neg (by omega)]
  rw[ci]at rr;have pvt:(PV.tup [v]).pure=true:=by simp only[PV.pure,ag,pv];rfl
  have z:∀h,bR (F (k+2) .o8) [.str x,.tup [v],S] h=.ok S1 h:=fun h=>bh h (by simp only[ag,pvt,hS];rfl) e1;simp only[EV,bw,at1,Yz,YZ,Vn,Vu,S7,lu,rr,aq _ pn,aq _ hS,aq _ pv,z,e]
  cases o<;>rfl
 induction h with
 |nil=>intro u y;exact⟨u,y,rfl⟩
 |@cons i v r n ps n1 S5 o n2 Qd S1 p p1 h0 hl e1 e t ih=>intro u y;obtain⟨u',y',lp⟩:=ih (some (.int i)) (some v);exact⟨u',y',(ff rfl (body i v S1 n n1 ps S5 none p p1 h0 hl e1 e)).trans lp⟩
 |@stop i v r n ps n1 S5 w S1 p p1 h0 hl e1 e=>intro u y;exact⟨u,y,xm rfl (body i v S1 n n1 ps S5 (some w) p p1 h0 hl e1 e)⟩
end
section
variable{d:List (PK×PV)}(hd:Oq d=true)
include hd
theorem GV(k:Nat)(n n1 n2:Int)(ps Qd:List (List Nat))(x bt:List Nat)(path ref nodes xs:List PV)(S:PV)(o:Option (List Nat))(hS:S.pure=true)(hp:ag path=true)(hr:ag ref=true)(hn:ag nodes=true)(hx:ag xs=true)(e1:F (k+2) .m7 [.tup path,S]=.ok (.tup ref))
  (e2:X_ (k+2) .j4 [.ref 1,.tup ref] (hW n ps d)=.ok (.lst xs) (hW n1 ps d)) (h:Rd (k+2) d x nodes bt S 0 xs n1 ps o n2 Qd):
  X_ (k+3) .d9 [.ref 0,.tup [Vr,.str x,.tup path,.tup nodes,.str bt],S] (hW n ps d)=out o n2 Qd d:=by
 obtain⟨u',y',lp⟩:=Df hd hS hn hp (.lst xs) h none none;show bn (bx (F (k+2)) (X_ (k+2))) 3 6 [.ref 0,.tup [Vr,.str x,.tup path,.tup nodes,.str bt],S] (hW n ps d)=_;rw[gW];have pp:(PV.tup path).pure=true:=by rw[PV.pure];exact hp
 have pl:(PV.lst xs).pure=true:=by rw[PV.pure];exact hx
 have z:∀h,bR (F (k+2) .m7) [.tup path,S] h=.ok (.tup ref) h:=fun h=>bh h (by simp[ag,pp,hS]) e1;simp only[EV,bx,at2,Vn,Vu,S7,lu,aq _ pp,aq _ hS,aq _ pl,z,e2,lp];exact uH hd _ _ _ _ _ _
theorem yC(k:Nat)(n n1 n2:Int)(ps Qd:List (List Nat))(x bt:List Nat)(path ref nodes xs:List PV)(S:PV)(o:Option (List Nat))(hS:S.pure=true)(hp:ag path=true)(hr:ag ref=true)(hn:ag nodes=true)(hx:ag xs=true)(e1:F (k+2) .m7 [.tup path,S]=.ok (.tup ref))
  (e2:X_ (k+2) .j4 [.ref 1,.tup ref] (hW n ps d)=.ok (.lst xs) (hW n1 ps d)) (h:Rd (k+2) d x nodes bt S 0 xs n1 ps o n2 Qd):
  X_ (k+4) .d8 [.ref 0,.tup [Vr,.str x,.tup path,.tup nodes,.str bt],S] (hW n ps d)=out o n2 Qd d:=by
 have w:=GV hd k n n1 n2 ps Qd x bt path ref nodes xs S o hS hp hr hn hx e1 e2 h;show bn (ay (F (k+3)) (X_ (k+3))) 3 7 [.ref 0,.tup [Vr,.str x,.tup path,.tup nodes,.str bt],S] (hW n ps d)=_;rw[gW];have q1:∀h,Pb (.str [108,111,111,112]) (.str [116,101,120,116]) h=.ok (.bl false) h:=dw _ _ _ (by decide) (by decide) rfl;have q2:∀h,Pb (.str [108,111,111,112]) (.str [112,108,97,99,101]) h=.ok (.bl false) h:=dw _ _ _ (by decide) (by decide) rfl;have q3:∀h,Pb (.str [108,111,111,112]) (.str [108,111,111,112]) h=.ok (.bl true) h:=dw _ _ _ (by decide) (by decide) rfl;have dn:∀h,ao h (.tup [.str [108,111,111,112],.str x,.tup path,.tup nodes,.str bt])=.tup [.str [108,111,111,112],.str x,.tup path,.tup nodes,.str bt]:=fun h=>rfl;simp only[Vr]at w ⊢;simp only[EV,ay,Td,Vn,Vu,S7,q1,q2,q3,dn,aq _ hS,w];exact lv hd _ _ _ _ _ _
end
abbrev Pq:=List Nat×List PV
noncomputable def pq(p:Pq):PV:=.tup (.str [112,105,101,99,101]::.str p.1::p.2)
def VG(acc:List (PK×PV)):List Pq→List (PK×PV)
 |[]=>acc
 |p::r=>VG (br acc (.inr p.1) (pq p)) r
theorem cS{p:Pq}(h:ag p.2=true):(pq p).pure=true:=by unfold pq;rw[PV.pure,ag,ag,h];rfl
theorem qy(k:Nat)(B:PV):∀(l:List Pq)(acc:List (PK×PV))(x:Option PV),(∀p∈l,ag p.2=true)→acc.length+l.length≤1000→∃x',bD (PL 2) (cP (F k)) (l.map pq) [some (.ref 0),some B,x] (hW 0 [] acc)=.nx [some (.ref 0),some B,x'] (hW 0 [] (VG acc l))
 |[],acc,x,_,_=>⟨x,rfl⟩
 |p::r,acc,x,h,hl=>by
  have l2:acc.length<16777216:=Nat.lt_of_le_of_lt (by rw[List.length_cons]at hl;omega:acc.length≤1000) (by decide)
  have pl:(br acc (.inr p.1) (pq p)).length≤acc.length+1:=by
   unfold br
   split
   ·rw[List.length_map];omega
   ·rw[List.length_append];exact Nat.le_refl _
  obtain⟨x',lp⟩:=qy k B r (br acc (.inr p.1) (pq p)) (some (pq p)) (fun q hq=>h q (List.mem_cons_of_mem _ hq)) (by rw[List.length_cons]at hl;omega);refine⟨x',?_⟩;rw[List.map_cons];refine(ff rfl ?_).trans lp;have i1:∀g,B_ (pq p) (.int 1) g=.ok (.str p.1) g:=fun g=>by unfold pq;simp only[Gg,at1,Gh];rfl
  have st:∀ ρ,tw (pq p) (.ref 3) (.str p.1) ρ (hW 0 [] acc)=.nx ρ (hW 0 [] (br acc (.inr p.1) (pq p))):=fun ρ=>by show(if acc.length<sizeLine then SR.nx ρ (hW 0 [] (br acc (.inr p.1) (pq p)))else .bad)=_;rw[if_pos (show acc.length<sizeLine from Nat.lt_of_lt_of_le l2 (by decide))]
  simp only[EV,cP,Vn,Gi,aq _ (cS (h p List.mem_cons_self)),i1,st]
theorem sQ(k:Nat)(l:List Pq)(h:∀p∈l,ag p.2=true)(hl:l.length≤1000):X_ (k+2) .i_ [.ref 0,.tup (l.map pq)] [.obj 601 []]=.ok .non (hW 0 [] (VG [] l)):=by
 obtain⟨x',lp⟩:=qy (k+1) (.tup (l.map pq)) l [] none h (by rw[List.length_nil];omega);have pi:X_ (k+1) .j9 [.ref 1] [.obj 601 [],.obj 600 []]=.ok .non [.obj 601 [],.obj 600 [.ref 2,.int 0],.lst []]:=rfl
 have pp:(PV.tup (l.map pq)).pure=true:=by
  rw[PV.pure];clear lp hl
  induction l with
  |nil=>rfl
  |cons p r ih=>rw[List.map_cons,ag,cS (h p List.mem_cons_self),ih fun q hq=>h q (List.mem_cons_of_mem _ hq)];rfl
 have mk:Xv 600 (X_ (k+1) .j9) [] [.obj 601 []]=.ok (.ref 1) [.obj 601 [],.obj 600 [.ref 2,.int 0],.lst []]:=by unfold Xv;show(match X_ (k+1) .j9 [.ref 1] [.obj 601 [],.obj 600 []]with|.ok .non h2=>Res.ok (PV.ref 1) h2|_=>.bad)=_;rw[pi]
 show rC (cq (F (k+1)) (X_ (k+1))) 2 3 [.ref 0,.tup (l.map pq)] [.obj 601 []]=_;have s1:∀ ρ,vq 601 0 (.ref 1) (.ref 0) ρ [.obj 601 [],.obj 600 [.ref 2,.int 0],.lst []]=.nx ρ [.obj 601 [.ref 1],.obj 600 [.ref 2,.int 0],.lst []]:=fun ρ=>rfl;have s2:∀ ρ,vq 601 1 (.ref 3) (.ref 0) ρ [.obj 601 [.ref 1],.obj 600 [.ref 2,.int 0],.lst [],.dct []]=.nx ρ (hW 0 [] []):=fun ρ=>rfl;have nd:∀ ρ,qN ρ [.obj 601 [.ref 1],.obj 600 [.ref 2,.int 0],.lst []]=.ok (.ref 3) [.obj 601 [.ref 1],.obj 600 [.ref 2,.int 0],.lst [],.dct []]:=fun ρ=>rfl;have dd:∀r,ao (.obj 601 []::r) (.ref 0)=.ref 0:=fun r=>rfl;have de:∀r,ao (.obj 601 [.ref 1]::r) (.ref 0)=.ref 0:=fun r=>rfl;simp only[EV,rC,cq,mk,s1,s2,nd,dd,de,aq _ pp,lp]
noncomputable def lL(o:Option (List Nat))(ps:List (List Nat)):PV:=match o with
 |none=>.tup [.str [119,114,105,116,116,101,110],.str ps.flatten]
 |some w=>.tup [.str [114,101,102,117,115,101,100],.str w,.str ps.flatten]
theorem HV(f:Nat→Bool)(i:Nat)(g:Sx)(ρ:Ev)(C:Nat)(v:PV)(h:List PO):nTr f i g ρ (.exc (.SX C v) h)=if f C=true then(match g (ρ.set i (some (.SX C v))) h with|.rt v h2=>.rt v h2|_=>.bad)else .bad:=rfl
theorem vd(k:Nat)(p0 p1 p2:Pq)(nm:List Nat)(c m v:PV)(R:List (PK×PV))(nodes:List PV)(o:Option (List Nat))(n:Int)(ps:List (List Nat))(hv:v.pure=true)(hR:aE R=true)(h0:ag p0.2=true)(h1:ag p1.2=true)(h2:ag p2.2=true)(hc:c.pure=true)(hm:m.pure=true)(hn:ag nodes=true)(hz:(ps.map (fun l=>l.length)).sum≤16777216)
  (hd:Oq (VG [] [p0,p1,p2,(nm,[c,m,.tup nodes])])=true) (e0:F (k+2) .z_ [c,v]=.ok .non) (e1:F (k+2) .u9 [v]=.ok (.dct R))
  (e2:X_ (k+2) .b_ [.ref 0,.tup nodes,C_ R .non] (hW 0 [] (VG [] [p0,p1,p2,(nm,[c,m,.tup nodes])]))=out o n ps (VG [] [p0,p1,p2,(nm,[c,m,.tup nodes])])):
  F (k+3) .written [.tup [pq p0,pq p1,pq p2,pq (nm,[c,m,.tup nodes])],v]=.ok (lL o ps):=by
 have pl:ag ([c,m,.tup nodes]:List PV)=true:=by rw[ag,ag,ag,hc,hm,PV.pure,hn];rfl
 have wi:=sQ k [p0,p1,p2,(nm,[c,m,.tup nodes])] (by
  intro p hp;simp only[List.mem_cons,List.not_mem_nil,or_false]at hp;rcases hp with rfl|rfl|rfl|rfl
  ·exact h0
  ·exact h1
  ·exact h2
  ·exact pl) (show 4≤1000 by decide)
 simp only[List.map_cons,List.map_nil]at wi;generalize hD:VG [] [p0,p1,p2,(nm,[c,m,.tup nodes])]=D at*
 have mk:Xv 601 (X_ (k+2) .i_) [.tup [pq p0,pq p1,pq p2,pq (nm,[c,m,.tup nodes])]] []=.ok (.ref 0) (hW 0 [] D):=by unfold Xv;show(match X_ (k+2) .i_ [.ref 0,.tup [pq p0,pq p1,pq p2,pq (nm,[c,m,.tup nodes])]] [.obj 601 []]with|.ok .non h2=>Res.ok (PV.ref 0) h2|_=>.bad)=_;rw[wi]
 have pm:=cS (p:=(nm,[c,m,.tup nodes])) pl;have pb:(PV.tup [pq p0,pq p1,pq p2,pq (nm,[c,m,.tup nodes])]).pure=true:=by simp only[PV.pure,ag,cS h0,cS h1,cS h2,pm];rfl
 have i1:∀g,B_ (.tup [pq p0,pq p1,pq p2,pq (nm,[c,m,.tup nodes])]) (.int (-1)) g=.ok (pq (nm,[c,m,.tup nodes])) g:=fun g=>by show Res.ok (ao g _) g=_;rw[aq g pm]
 have i2:∀g,B_ (pq (nm,[c,m,.tup nodes])) (.int 2) g=.ok c g:=fun g=>by show Res.ok (ao g c) g=_;rw[aq g hc]
 have pn:(PV.tup nodes).pure=true:=by rw[PV.pure];exact hn
 have i4:∀g,B_ (pq (nm,[c,m,.tup nodes])) (.int 4) g=.ok (.tup nodes) g:=fun g=>by show Res.ok (ao g (.tup nodes)) g=_;rw[aq g pn]
 have z0:∀h,bR (F (k+2) .z_) [c,v] h=.ok .non h:=fun h=>bh h (by simp[ag,hc,hv]) e0;have z1:∀h,bR (F (k+2) .u9) [v] h=.ok (.dct R) h:=fun h=>bh h (by simp[ag,hv]) e1;have pw:=tV (k+1) n ps hd hz;have e2:X_ (k+2) .b_ [.ref 0,.tup nodes,.tup [.dct R,.non]] (hW 0 [] D)=out o n ps D:=e2;have fr:∀r,ao (hW 0 [] D) r=ao (hW 0 [] D) r:=fun r=>rfl;show aJ (fU (F (k+2)) (X_ (k+2))) 2 5 [.tup [pq p0,pq p1,pq p2,pq (nm,[c,m,.tup nodes])],v]=_
 cases o with
 |none=>simp only[EV,aJ,fU,aq _ pb,aq _ hv,aq _ pm,i1,i2,i4,z0,z1,mk,Vn,Vu,e2,out,lu,S7,pw];exact dE _ rfl
 |some w=>have pr:=tW (k+1) n ps hd hz w;have okw:nB 500=true:=rfl;have ca:gL 500=true:=rfl;simp only[EV,aJ,fU,aq _ pb,aq _ hv,aq _ pm,i1,i2,i4,z0,z1,mk,Vn,Vu,e2,out,xf,HV,ca,lu,S7,okw,pr];exact dE _ rfl
theorem Kr(k:Nat)(x:List Nat)(v:PV)(hv:v.pure=true):F (k+1) .u9 [.dct [(.inr x,v)]]=.ok (.dct [(.inr x,.tup [v])]):=by
 show aJ (cI (F k)) 1 3 [.dct [(.inr x,v)]]=_;have pd:(PV.dct [(.inr x,v)]).pure=true:=by rw[PV.pure,aE,hv];rfl
 have e:bj [(.inr x,v)] (.inr x)=some v:=by unfold bj;rw[List.find?_cons_of_pos (by simp)];rfl
 have pt:(PV.tup [v]).pure=true:=by rw[PV.pure,ag,hv];rfl
 have pk:aE [((.inr x:PK),PV.tup [v])]=true:=by rw[aE,pt];rfl
 have pu:br [] (.inr x) (.tup [v])=[(.inr x,.tup [v])]:=rfl;have it:∀h,io (.dct [(.inr x,v)]) h=.ok [.str x] h:=fun h=>rfl;simp only[EV,aJ,cI,gF,bD,aq _ pd,it,e,aq _ hv,pu];simp only[EV,show(0:Nat)<16777216 from by decide,pu,uD _ pk];exact dE _ (by rw[PV.pure];exact pk)
structure Nm where
 mn:List Nat
 tn:List Nat
 on:List Nat
 pn:List Nat
 inn:List Nat
 ot:List Nat
 pa:List Nat
 se:List Nat
 Tg:List Nat
 ls:List Nat
 tg:List Nat
 fl:List Nat
 lo:List Nat
def tx(c:Nat):PV:=.tup [Y8,.str [c]]
def U5(p:List PV)(w:List Nat):PV:=.tup [W9,.tup p,.str w]
def W4(A:Nm)(x:List Nat):PV:=.tup [YD,.tup [.tup [.str x]]]
def Fg(A:Nm):PV:=.tup [Vr,.str A.inn,.tup [.str A.pn,.str A.ls],.tup [W4 A A.inn],.str [44]]
def T_(A:Nm)(n3:List Nat):Pq:=(n3,[.tup [.str A.pn],.int 1,.tup [tx 40,Fg A,tx 41,U5 [.str A.pn,.str A.tg] wW]])
def Uu(A:Nm)(n3 n4:List Nat):Pq:=(n4,[.tup [.str A.ot],.int 1,.tup [.tup [Uv,.str n3,.tup [.tup [.str A.ot]],.tup [.str A.pa],.tup [W4 A A.pa]]]])
def Ut(A:Nm)(n5:List Nat):Pq:=(n5,[.tup [.str A.pn,.str A.se],.non,.tup [.tup [Xn,.tup [.str A.pn],.tup [tx 121],.tup [tx 110,U5 [.str A.se] wW]]]])
def fM(A:Nm)(t:Bool):List PV:=U5 [.str A.on] wN::(if t=true then[tx 58,U5 [.str A.tn,.str A.tg] wW]else[])
def vg(A:Nm)(t:Bool)(nu:List Nat):PV:=.tup [Uv,.str nu,.tup [.tup [.str A.tn]],.tup [.str A.on],.tup (fM A t)]
def zA(A:Nm)(n5:List Nat):PV:=.tup [Uv,.str n5,.tup [.tup [.str A.tn,.str A.fl],.tup [.str A.tn,.str A.lo]],.non,.non]
def VB(A:Nm)(t:Bool)(nu n5 n6:List Nat):Pq:=(n6,[.tup [.str A.mn],.non,.tup [.tup [Vr,.str A.tn,.tup [.str A.mn,.str A.Tg],.tup [vg A t nu,zA A n5],.str [59]]]])
theorem a5{α:Type}(a b c d e f:α)(l:List α):QW (a::b::c::d::e::f::l) 5=some f:=di (by decide) rfl
theorem a6{α:Type}(a b c d e f g:α)(l:List α):QW (a::b::c::d::e::f::g::l) 6=some g:=di (by decide) rfl
theorem BV(k:Nat)(ps:List PV):F (k+1) .Om ps=aJ (ib (F k)) 4 26 ps:=rfl
theorem NR(a:PV)(l m:List PV)(h:List PO)(q:l.length+m.length≤1000):bo (.tup (a::l)) (.tup m) h=.ok (.tup (a::l++m)) h:=by show(if(a::l).isEmpty=false∧(a::l).length+m.length≤sizeLine then Res.ok (PV.tup (a::l++m)) h else .bad)=_;rw[if_pos ⟨rfl,Nat.le_trans (by rw[List.length_cons];omega:(a::l).length+m.length≤1001) (by decide)⟩]
theorem Mb(a b:List PV)(h:List PO)(q:a.length+b.length≤1000):bo (.lst a) (.lst b) h=.ok (.lst (a++b)) h:=by show AS (.lst a) (.lst b) h=_;rw[JA,if_pos (Nat.le_trans q (by decide))]
theorem Mc(a b c:PV)(h:List PO):bo (.tup [a]) (.tup [b,c]) h=.ok (.tup [a,b,c]) h:=NR a [] [b,c] h (by simp)
theorem Gk(a b c e:PV)(h:List PO):bo (.lst [a,b,c]) (.lst [e]) h=.ok (.lst [a,b,c,e]) h:=Mb [a,b,c] [e] h (by simp)
theorem xE(k:Nat)(A:Nm)(n0 n1 n2 n3 n4 n5 n6 n7 n8 n9 Yd Yc nu:List Nat)(w:Int)(t:Bool)(hw:QW [PV.str n0,.str n1,.str n2,.str n3,.str n4,.str n5,.str n6,.str n7,.str n8,.str n9,.str Yd,.str Yc] (3+w)=some (.str nu))(rest:List PV)
  (hs:∀h,cx (ik (F k)) (iM (F k)) [some (.str A.pn)] [PV.str n0,.str n1,.str n2,.str n3,.str n4,.str n5,.str n6,.str n7,.str n8,.str n9,.str Yd,.str Yc] h=.ok (.str A.se::rest) h)
  (he:∀h,Ti (.str A.on) (.str A.tn) h=.ok (.bl t) h):
  F (k+1) .Om [.lst [.str n0,.str n1,.str n2,.str n3,.str n4,.str n5,.str n6,.str n7,.str n8,.str n9,.str Yd,.str Yc],.lst [.str A.mn,.str A.tn,.str A.on,.str A.pn,.str A.inn,.str A.ot,.str A.pa],.lst [.str A.Tg,.str A.ls,.str A.tg,.str A.fl,.str A.lo],.int w]=
   .ok (.tup [pq (T_ A n3),pq (Uu A n3 n4),pq (Ut A n5),pq (VB A t nu n5 n6)]):=by
 rw[BV];obtain⟨A1,A2,A3,A4,A5,A6,A7,A8,A9,A10,A11,A12,A13⟩:=A;dsimp only at hs he ⊢;have z12:((12:Nat)<16777216)=True:=eq_true (by decide)
 cases t with
 |true=>simp only[EV,aJ,ib,ei,Option.getD_some,z12,hs,he,hw,Td,Yz,YZ,a5,a6,Mc,Gk];exact dE _ rfl
 |false=>simp only[EV,aJ,ib,ei,Option.getD_some,z12,hs,he,hw,Td,Yz,YZ,a5,a6,Gk];exact dE _ rfl
abbrev Ls:=List (List Nat)
def Wr(K:Nat)(d:List (PK×PV))(S nd:PV)(c:Nat)(o:Option (List Nat))(q:Ls):Prop:=nd.pure=true∧∀(n:Int)(ps:Ls),n+c≤2000→ps.length+q.length≤10000→∃n2:Int,n2≤n+c∧X_ K .d8 [.ref 0,nd,S] (hW n ps d)=out o n2 (ps++q) d
def Ws(K:Nat)(d:List (PK×PV))(S:PV)(l:List PV)(c:Nat)(o:Option (List Nat))(q:Ls):Prop:=ag l=true∧∀(n:Int)(ps:Ls),n+c≤2000→ps.length+q.length≤10000→∃n2:Int,n2≤n+c∧X_ K .b_ [.ref 0,.tup l,S] (hW n ps d)=out o n2 (ps++q) d
def Wl(K:Nat)(d:List (PK×PV))(S:PV)(l:List PV)(c:Nat)(o:Option (List Nat))(q:Ls):Prop:=ag l=true∧∀(n:Int)(ps:Ls),n+c≤2000→ps.length+q.length≤10000→∃n2:Int,n2≤n+c∧Lo K d S l n ps o n2 (ps++q)
section
variable{K:Nat}{d:List (PK×PV)}{S nd:PV}{l:List PV}{c c2:Nat}{o:Option (List Nat)}{q q2:Ls}
theorem zv:Wl K d S [] 0 none []:=⟨rfl,fun n ps _ _=>⟨n,by omega,by rw[List.append_nil];exact .nil⟩⟩
theorem eY(a:Wr K d S nd c none q)(b:Wl K d S l c2 o q2):Wl K d S (nd::l) (c+c2) o (q++q2):=⟨by rw[ag,a.1,b.1];rfl,fun n ps h1 h2=>by rw[List.length_append]at h2;obtain⟨m,hm,e⟩:=a.2 n ps (by omega) (by omega);obtain⟨m2,hm2,t⟩:=b.2 m (ps++q) (by omega) (by rw[List.length_append];omega);exact⟨m2,by omega,by rw[← List.append_assoc];exact .cons a.1 e t⟩⟩
theorem iZ(hd:Oq d=true)(hS:S.pure=true)(a:Wl K d S l c o q):Ws (K+1) d S l c o q:=⟨a.1,fun n ps h1 h2=>by obtain⟨m,hm,e⟩:=a.2 n ps h1 h2;exact⟨m,hm,yA hd hS a.1 e⟩⟩
theorem FK(a:Ws K d S l c o q)(h:c≤c2):Ws K d S l c2 o q:=⟨a.1,fun n ps h1 h2=>by obtain⟨m,hm,e⟩:=a.2 n ps (by omega) h2;exact⟨m,by omega,e⟩⟩
end
abbrev It:=PV×Option (List Nat)×Ls
noncomputable def rq(bt:List Nat):Nat→List It→Ls
 |_,[]=>[]
 |i,(_,none,q)::r=>(if i>0 then[bt]else[])++q++rq bt (i+1) r
 |i,(_,some _,q)::_=>(if i>0 then[bt]else[])++q
noncomputable def ro:List It→Option (List Nat)
 |[]=>none
 |(_,none,_)::r=>ro r
 |(_,some w,_)::_=>some w
theorem xq(i:Nat)(bt:List Nat)(ps:Ls):(if i>0 then ps++ [bt]else ps)=ps++(if i>0 then[bt]else[]):=by
 by_cases h:i>0
 ·rw[if_pos h,if_pos h]
 ·rw[if_neg h,if_neg h,List.append_nil]
theorem tL{K:Nat}{d:List (PK×PV)}{x bt:List Nat}{nodes:List PV}{S:PV}{c:Nat}:∀(its:List It)(i:Nat)(n:Int)(ps:Ls),(∀t∈its,t.1.pure=true∧∃S1,S1.pure=true∧F K .o8 [.str x,.tup [t.1],S]=.ok S1∧Ws K d S1 nodes c t.2.1 t.2.2)→n+(((c+1) * its.length:Nat):Int)≤2000→ps.length+(rq bt i its).length≤10000→
  ∃n2:Int,n2≤n+(((c+1) * its.length:Nat):Int)∧Rd K d x nodes bt S i (its.map (·.1)) n ps (ro its) n2 (ps++rq bt i its)
 |[],i,n,ps,_,_,_=>⟨n,by omega,by rw[rq,List.append_nil];exact .nil⟩
 |(v,none,q)::r,i,n,ps,h,hn,hl=>by obtain⟨p,S1,p1,e1,w⟩:=h _ List.mem_cons_self;rw[rq,List.length_append,List.length_append]at hl;rw[List.length_cons,Nat.mul_succ]at hn;obtain⟨m,hm,e⟩:=w.2 (n+1) (if i>0 then ps++ [bt]else ps) (by omega) (by rw[xq,List.length_append];dsimp only;omega);rw[show(if i>0 then ps++ [bt]else ps)++q=ps++((if i>0 then[bt]else[])++q) by rw[xq,List.append_assoc]]at e;obtain⟨m2,hm2,t⟩:=tL (bt:=bt) r (i+1) m (ps++((if i>0 then[bt]else[])++q)) (fun t ht=>h t (List.mem_cons_of_mem _ ht)) (by omega) (by rw[List.length_append,List.length_append];omega);refine⟨m2,by rw[List.length_cons,Nat.mul_succ];omega,?_⟩;rw[rq,← List.append_assoc];exact .cons S1 p p1 (by omega) (by omega) e1 e t
 |(v,some z,q)::r,i,n,ps,h,hn,hl=>by obtain⟨p,S1,p1,e1,w⟩:=h _ List.mem_cons_self;rw[rq,List.length_append]at hl;rw[List.length_cons,Nat.mul_succ]at hn;obtain⟨m,hm,e⟩:=w.2 (n+1) (if i>0 then ps++ [bt]else ps) (by omega) (by rw[xq,List.length_append];dsimp only;omega);rw[show(if i>0 then ps++ [bt]else ps)++q=ps++((if i>0 then[bt]else[])++q) by rw[xq,List.append_assoc]]at e;refine⟨m,by rw[List.length_cons,Nat.mul_succ];omega,?_⟩;rw[rq];exact .stop S1 p p1 (by omega) (by omega) e1 e
section
variable{d:List (PK×PV)}(hd:Oq d=true)
include hd
theorem kA(k:Nat)(S:PV)(t:List Nat):Wr (k+2) d S (.tup [Y8,.str t]) 0 none [t]:=⟨rfl,fun n ps h1 h2=>⟨n,by omega,yB hd k n ps (by omega) t S⟩⟩
variable(k:Nat)(x:List Nat)(rr:List PV)(a:PV)(ref:List PV)(D:List (PK×PV))(b:PV)(e:bj D (.inr x)=some (.tup (a::ref)))(pD:aE D=true)(pb:b.pure=true)(pr:ag rr=true)(pa:ag (a::ref)=true)(hl:ref.length+rr.length≤1000)
include e pD pb pr pa hl
omit hd in
theorem kI:(C_ D b).pure=true:=by simp only[C_,PV.pure,ag,pD,pb];rfl
omit hd in
theorem std:F (k+1) .m7 [.tup (.str x::rr),C_ D b]=.ok (.tup (a::(ref++rr))):=Kj k x rr a ref D b e (by rw[PV.pure];exact pD) pr pa hl
omit hd e pD pb hl in
theorem Zi:ag (a::(ref++rr))=true:=by
 have pp:∀(l m:List PV),ag l=true→ag m=true→ag (l++m)=true:=fun l m hl hm=>by
  induction l with
  |nil=>exact hm
  |cons x t ih=>rw[ag,Bool.and_eq_true]at hl;rw[List.cons_append,ag,hl.1,ih hl.2];rfl
 exact pp (a::ref) rr pa pr
omit hd e pD pb pa hl in
theorem hJ:ag (.str x::rr)=true:=by rw[ag,pr];rfl
theorem wD(l:List Nat)(f:∀k,F (k+1) .found [a,.tup (ref++rr)]=.ok (.tup [.str l]))(h1:1≤l.length)(h2:l.length≤40)(h:∀c∈l,c∈cD):Wr (k+7) d (C_ D b) (U5 (.str x::rr) wW) 1 none [l]:=by have p2:=Zi rr a ref pr pa;have pp:=hJ x rr pr;refine⟨by simp only[U5,PV.pure,W9];rw[ag,ag,ag,PV.pure,pp];rfl,fun n ps h3 h4=>⟨n+1,by omega,?_⟩⟩;rw[ag,Bool.and_eq_true]at p2;exact ow hd (k+5) n (n+1) ps (ps++ [l]) (.str x::rr) (a::(ref++rr)) wW _ _ (kI x rr a ref D b e pD pb pr pa hl) pp (by rw[ag,p2.1,p2.2];rfl) (std (k+5) x rr a ref D b e pD pb pr pa hl) (Ai k n ps hd (ref++rr) a (by omega) (by omega) p2.1 p2.2 l (f _) h1 h2 h)
theorem Gq(v:Int)(f:∀k,F (k+1) .found [a,.tup (ref++rr)]=.ok (.tup [.int v]))(h1: -1000000000000000000000000000000<v)(h2:v<1000000000000000000000000000000):Wr (k+7) d (C_ D b) (U5 (.str x::rr) wN) 1 none [gN v]:=by have p2:=Zi rr a ref pr pa;have pp:=hJ x rr pr;refine⟨by simp only[U5,PV.pure,W9];rw[ag,ag,ag,PV.pure,pp];rfl,fun n ps h3 h4=>⟨n+1,by omega,?_⟩⟩;rw[ag,Bool.and_eq_true]at p2;exact ow hd (k+5) n (n+1) ps (ps++ [gN v]) (.str x::rr) (a::(ref++rr)) wN _ _ (kI x rr a ref D b e pD pb pr pa hl) pp (by rw[ag,p2.1,p2.2];rfl) (std (k+5) x rr a ref D b e pD pb pr pa hl) (Dj k n ps hd (ref++rr) a (by omega) (by omega) p2.1 p2.2 v (f _) h1 h2)
theorem Cw(w:List Nat)(f:∀k,F (k+1) .found [a,.tup (ref++rr)]=.ok (.tup [])):Wr (k+4) d (C_ D b) (U5 (.str x::rr) w) 1 (some [102,105,101,108,100]) []:=by
 have p2:=Zi rr a ref pr pa;have pp:=hJ x rr pr;refine⟨by simp only[U5,PV.pure,W9];rw[ag,ag,ag,PV.pure,pp];rfl,fun n ps h3 h4=>⟨n+1,by omega,?_⟩⟩;rw[ag,Bool.and_eq_true]at p2;have hS:=kI x rr a ref D b e pD pb pr pa hl;have e1:=std (k+2) x rr a ref D b e pD pb pr pa hl;have e2:=AE k n ps hd (ref++rr) a (by omega) p2.1 p2.2 (.str w) rfl (f _);rw[List.append_nil];show bn (ay (F (k+3)) (X_ (k+3))) 3 7 [.ref 0,.tup [W9,.tup (.str x::rr),.str w],C_ D b] (hW n ps d)=_;have q1:∀h,Pb (.str [112,108,97,99,101]) (.str [116,101,120,116]) h=.ok (.bl false) h:=dw _ _ _ (by decide) (by decide) rfl;have q2:∀h,Pb (.str [112,108,97,99,101]) (.str [112,108,97,99,101]) h=.ok (.bl true) h:=dw _ _ _ (by decide) (by decide) rfl;have ppt:(PV.tup (.str x::rr)).pure=true:=by rw[PV.pure];exact pp
 have z:∀h,bR (F (k+3) .m7) [.tup (.str x::rr),C_ D b] h=.ok (.tup (a::(ref++rr))) h:=fun h=>bh h (by simp only[ag,ppt,hS];rfl) e1;simp only[EV,bn,ay,W9,Td,at1,at2,Vn,Vu,S7,lu,q1,q2,aq _ ppt,aq _ hS,z,e2,vR];exact uM _ _ _ _ _ hd rfl
theorem xJ(ys ns:List PV)(t:Bool)(o:Option (List Nat))(c:Nat)(q:Ls)(f:∀k,F (k+1) .found [a,.tup (ref++rr)]=.ok (.tup [.bl t]))(hy:ag ys=true)(hn:ag ns=true)(w:Ws (k+3) d (C_ D b) (if t=true then ys else ns) c o q):Wr (k+4) d (C_ D b) (.tup [Xn,.tup (.str x::rr),.tup ys,.tup ns]) (c+1) o q:=by have p2:=Zi rr a ref pr pa;have pp:=hJ x rr pr;refine⟨by simp only[PV.pure,Xn];rw[ag,ag,ag,ag,PV.pure,PV.pure,PV.pure,pp,hy,hn];rfl,fun n ps h3 h4=>?_⟩;obtain⟨m,hm,e3⟩:=w.2 (n+1) ps (by omega) h4;refine⟨m,by omega,?_⟩;have p3:=p2;rw[ag,Bool.and_eq_true]at p2;exact ue hd (k+2) n (n+1) m ps (ps++q) (.str x::rr) (a::(ref++rr)) ys ns _ t o (kI x rr a ref D b e pD pb pr pa hl) pp p3 hy hn (std (k+2) x rr a ref D b e pD pb pr pa hl) (yp k n ps hd (ref++rr) a (by omega) p2.1 p2.2 t (f _)) e3
theorem wF(y bt:List Nat)(nodes:List PV)(its:List It)(c:Nat)(hn:ag nodes=true)(f:∀k,F (k+1) .found [a,.tup (ref++rr)]=.ok (.tup [.lst (its.map (·.1))]))
  (h:∀t∈its,t.1.pure=true∧∃S1,S1.pure=true∧F (k+3) .o8 [.str y,.tup [t.1],C_ D b]=.ok S1∧Ws (k+3) d S1 nodes c t.2.1 t.2.2):Wr (k+5) d (C_ D b) (.tup [Vr,.str y,.tup (.str x::rr),.tup nodes,.str bt]) ((c+1) * its.length+1) (ro its) (rq bt 0 its):=by
 have p2:=Zi rr a ref pr pa;have pp:=hJ x rr pr;refine⟨by simp only[PV.pure,Vr];rw[ag,ag,ag,ag,ag,PV.pure,PV.pure,pp,hn];rfl,fun n ps h3 h4=>?_⟩;obtain⟨m,hm,r⟩:=tL (bt:=bt) its 0 (n+1) ps h (by omega) h4;refine⟨m,by omega,?_⟩;have p3:=p2;rw[ag,Bool.and_eq_true]at p2
 have hx:ag (its.map (·.1))=true:=by
  clear f r h4 h3 hm
  induction its with
  |nil=>rfl
  |cons t r ih=>rw[List.map_cons,ag,(h t List.mem_cons_self).1,ih fun u hu=>h u (List.mem_cons_of_mem _ hu)];rfl
 exact yC hd (k+1) n (n+1) m ps (ps++rq bt 0 its) y bt (.str x::rr) (a::(ref++rr)) nodes (its.map (·.1)) _ (ro its) (kI x rr a ref D b e pD pb pr pa hl) pp p3 hn hx (std (k+2) x rr a ref D b e pD pb pr pa hl) (AF k n ps hd (ref++rr) a (by omega) p2.1 p2.2 _ (f _) hx) r
end
section
variable{d:List (PK×PV)}(hd:Oq d=true)
include hd
theorem ve(k:Nat)(x:List Nat)(ts:List Tr)(hs bd a b m S:PV)(l:List PV)(o:Option (List Nat))(c:Nat)(q:Ls)(hS:S.pure=true)(h:Xr (k+1) S ts)(hl:ts.length≤1000)(p1:hs.pure=true)(p2:bd.pure=true)(nb:oB bd=false)(pl:ag l=true)(pa:a.pure=true)(pb:b.pure=true)(pm:m.pure=true)
  (ev:bj d (.inr x)=some (.tup [a,b,Sq ts,m,.tup l])) (w:Ws (k+3) d (C_ (hnd [] ts) (.tup [hs,bd,S])) l c o q):Wr (k+4) d S (.tup [Uv,.str x,Ue ts,hs,bd]) c o q:=by
 have pk:=fD ts [] rfl fun t ht=>(h t ht).2.2;have h2:(C_ (hnd [] ts) (.tup [hs,bd,S])).pure=true:=by simp only[C_,PV.pure,ag,pk,p1,p2,hS];rfl
 refine⟨by simp only[PV.pure,Uv];rw[ag,ag,ag,ag,ag,cZ h,p1,p2];rfl,fun n ps h3 h4=>?_⟩;obtain⟨n2,hm,e3⟩:=w.2 n ps h3 h4
 exact⟨n2,hm,ud hd (k+2) n n2 ps (ps++q) x (Ue ts) hs bd a b (Sq ts) m S _ l o hS h2 (cZ h) p1 p2 pl (by simp only[PV.pure];rw[ag,ag,ag,ag,ag,pa,pb,dF,pm,PV.pure,pl];rfl) ev
  (IW (k+1) S hs bd Uv (.str x) a b m (.tup l) hS ts h hl p1 p2 nb ⟨rfl,rfl,pa,pb,pm,by rw[PV.pure];exact pl⟩) e3⟩
theorem Cv(k:Nat)(x:List Nat)(ts:List Tr)(a b m S:PV)(l:List PV)(o:Option (List Nat))(c:Nat)(q:Ls)(hS:S.pure=true)(h:Xr (k+1) S ts)(hl:ts.length≤1000)(pl:ag l=true)(pa:a.pure=true)(pb:b.pure=true)(pm:m.pure=true)
  (ev:bj d (.inr x)=some (.tup [a,b,Sq ts,m,.tup l])) (w:Ws (k+3) d (C_ (hnd [] ts) .non) l c o q):Wr (k+4) d S (.tup [Uv,.str x,Ue ts,.non,.non]) c o q:=by
 have pk:=fD ts [] rfl fun t ht=>(h t ht).2.2;have h2:(C_ (hnd [] ts) .non).pure=true:=by simp only[C_,PV.pure,ag,pk];rfl
 refine⟨by simp only[PV.pure,Uv];rw[ag,ag,ag,ag,ag,cZ h];rfl,fun n ps h3 h4=>?_⟩;obtain⟨n2,hm,e3⟩:=w.2 n ps h3 h4
 exact⟨n2,hm,ud hd (k+2) n n2 ps (ps++q) x (Ue ts) .non .non a b (Sq ts) m S _ l o hS h2 (cZ h) rfl rfl pl (by simp only[PV.pure];rw[ag,ag,ag,ag,ag,pa,pb,dF,pm,PV.pure,pl];rfl) ev
  (EG (k+1) S .non Uv (.str x) a b m (.tup l) hS ts h hl) e3⟩
theorem wG(k:Nat)(d0:List (PK×PV))(b0:PV)(l:List PV)(D:List (PK×PV))(p0:aE d0=true)(pb:b0.pure=true)(pl:ag l=true)(pD:aE D=true)(ts:List Tr)(o:Option (List Nat))(c:Nat)(q:Ls)(h:Xr (k+1) (C_ D (.tup [Sq ts,.tup l,C_ d0 b0])) ts)(hl:d0.length+ts.length≤1000)(w:Ws (k+3) d (C_ (hnd d0 ts) b0) l c o q):
  Wr (k+4) d (C_ D (.tup [Sq ts,.tup l,C_ d0 b0])) (.tup [YD,Ue ts]) c o q:=by
 have pc:(C_ d0 b0).pure=true:=by simp only[C_,PV.pure,ag,p0,pb];rfl
 have pL:(PV.tup l).pure=true:=by rw[PV.pure];exact pl
 have hS:(C_ D (.tup [Sq ts,.tup l,C_ d0 b0])).pure=true:=by
  have:(PV.tup [Sq ts,.tup l,C_ d0 b0]).pure=true:=by rw[PV.pure,ag,ag,ag,dF,pL,pc];rfl
  have p2:(PV.dct D).pure=true:=by rw[PV.pure];exact pD
  show ag [PV.dct D,_]=true;rw[ag,ag,p2,this];rfl
 have pk:=fD ts d0 p0 fun t ht=>(h t ht).2.2;have h2:(C_ (hnd d0 ts) b0).pure=true:=by simp only[C_,PV.pure,ag,pk,pb];rfl
 refine⟨by simp only[PV.pure,YD];rw[ag,ag,cZ h];rfl,fun n ps h3 h4=>?_⟩;obtain⟨n2,hm,e3⟩:=w.2 n ps h3 h4;exact⟨n2,hm,yD hd (k+2) n n2 ps (ps++q) (Ue ts) (Sq ts) (C_ d0 b0) _ D l o hS (cZ h) pl (dF ts) pc h2 (EH (k+1) d0 b0 (Sq ts) (.tup l) D p0 pb (dF ts) pL pD ts rfl h hl) e3⟩
end
structure Rc where
 th:List Int
 tg:List Nat
 tr:Bool
noncomputable def rv(A:Nm)(r:Rc):PV:=.dct [(.inr A.ls,.lst (r.th.map PV.int)),(.inr A.tg,.str r.tg),(.inr A.fl,.bl r.tr)]
def okR(r:Rc):Prop:=r.th.length≤3∧(∀i∈r.th, -1000≤i∧i≤1000)∧1≤r.tg.length∧r.tg.length≤40∧∀c∈r.tg,c∈cD
structure X7(A:Nm)(t:Bool):Prop where
 h1:A.ls≠A.tg
 h2:A.ls≠A.fl
 h3:A.tg≠A.fl
 h4:A.lo≠A.ls
 h5:A.lo≠A.tg
 h6:A.lo≠A.fl
 h7:A.pn≠A.se
 h8:t=true→A.on≠A.tn
theorem jL:∀l:List Int,ag (l.map PV.int)=true
 |[]=>rfl
 |_::r=>by rw[List.map_cons,ag,jL r];rfl
theorem cR(A:Nm)(r:Rc):(rv A r).pure=true:=by unfold rv;rw[PV.pure,aE,aE,aE,PV.pure,jL];rfl
theorem dO(x y:List Nat)(v:PV)(r:List (PK×PV)):bj ((.inr x,v)::r) (.inr y)=if x=y then some v else bj r (.inr y):=by
 unfold bj
 by_cases h:x=y
 ·rw[if_pos h,List.find?_cons_of_pos (by simp[h])];rfl
 ·rw[if_neg h,List.find?_cons_of_neg (by simp[h])]
theorem Gv(y:List Nat):bj [] (.inr y)=none:=rfl
section
variable{A:Nm}{t:Bool}(hA:X7 A t)(r:Rc)
include hA
theorem NJ(k:Nat):F (k+1) .found [rv A r,.tup [.str A.ls]]=.ok (.tup [.lst (r.th.map PV.int)]):=sh k _ _ _ (by rw[dO,if_pos rfl]) (cR A r) (by rw[PV.pure];exact jL _)
theorem LQ(k:Nat):F (k+1) .found [rv A r,.tup [.str A.tg]]=.ok (.tup [.str r.tg]):=sh k _ _ _ (by rw[dO,if_neg hA.h1,dO,if_pos rfl]) (cR A r) rfl
theorem NL(k:Nat):F (k+1) .found [rv A r,.tup [.str A.fl]]=.ok (.tup [.bl r.tr]):=sh k _ _ _ (by rw[dO,if_neg hA.h2,dO,if_neg hA.h3,dO,if_pos rfl]) (cR A r) rfl
theorem NK(k:Nat):F (k+1) .found [rv A r,.tup [.str A.lo]]=.ok (.tup []):=IZ k _ _ (by rw[dO,if_neg hA.h4.symm,dO,if_neg hA.h5.symm,dO,if_neg hA.h6.symm,Gv]) (cR A r)
end
def Qi(t:Bool)(r:Rc)(i:Int):Ls:=gN i::(if t=true then[[58],r.tg]else[])
theorem LM(D:List (PK×PV))(x:List Nat)(p m:List PV):hnd D [(x,p,m)]=br D (.inr x) (.tup m):=rfl
theorem nr(D:List (PK×PV))(k:PK)(v:PV):(br D k v).length≤D.length+1:=by
 unfold br
 split
 ·rw[List.length_map];omega
 ·rw[List.length_append];exact Nat.le_refl _
section
variable{d:List (PK×PV)}(hd:Oq d=true){A:Nm}{t:Bool}(hA:X7 A t)(r:Rc)(hr:okR r)
include hd hA hr
theorem CD(k:Nat)(D:List (PK×PV))(b:PV)(i:Int)(hi:i∈r.th)(pD:aE D=true)(pb:b.pure=true)(e1:bj D (.inr A.on)=some (.tup [.int i]))(e2:t=true→bj D (.inr A.tn)=some (.tup [rv A r])):Wl (k+7) d (C_ D b) (fM A t) 2 none (Qi t r i):=by
 have hi:=hr.2.1 i hi;have a:=Gq hd k A.on [] (.int i) [] D b e1 pD pb rfl rfl (by decide) i (fun k=>Ja k (.int i) rfl) (by omega) (by omega)
 cases t with
 |false=>
  have z:Wl (k+7) d (C_ D b) [] 1 none []:=⟨rfl,fun n ps _ _=>⟨n,by omega,by rw[List.append_nil];exact .nil⟩⟩
  exact eY a z
 |true=>have z:=wD hd k A.tn [.str A.tg] (rv A r) [] D b (e2 rfl) pD pb rfl (by rw[ag,cR];rfl) (by simp) r.tg (fun k=>LQ hA r k) hr.2.2.1 hr.2.2.2.1 hr.2.2.2.2;exact eY a (eY (kA hd (k+5) _ [58]) (eY z zv))
theorem FM(k:Nat)(x:List Nat)(D D1:List (PK×PV))(i:Int)(hi:i∈r.th)(pD:aE D=true)(p1:aE D1=true)(l1:D1.length≤100)(e:bj D1 (.inr A.tn)=some (.tup [rv A r])):Wr (k+9) d (C_ (br D (.inr x) (.tup [.int i])) (.tup [.tup [.str A.on],.tup (fM A t),C_ D1 .non])) (W4 A x) 2 none (Qi t r i):=by
 have pP:aE (br D (.inr x) (.tup [.int i]))=true:=aT D _ _ pD rfl;have q1:aE (br D1 (.inr A.on) (.tup [.int i]))=true:=aT D1 _ _ p1 rfl;have w:=CD hd hA r hr k (br D1 (.inr A.on) (.tup [.int i])) .non i hi q1 rfl (by rw[bf,if_pos rfl]) (fun ht=>by rw[bf,if_neg (by intro z;exact hA.h8 ht (Sum.inr.inj z).symm)];exact e);have pl:ag (fM A t)=true:=w.1
 have pB:(PV.tup [.tup [.str A.on],.tup (fM A t),C_ D1 .non]).pure=true:=by simp only[C_,PV.pure,ag,pl,p1];rfl
 have st:=fun k=>std k x [] (.int i) [] (br D (.inr x) (.tup [.int i])) (.tup [.tup [.str A.on],.tup (fM A t),C_ D1 .non]) (by rw[bf,if_pos rfl]) pP pB rfl rfl (by decide);have hS:(C_ (hnd D1 [(A.on,[.str x],[.int i])]) .non).pure=true:=by rw[LM];simp only[C_,PV.pure,ag,q1];rfl
 refine wG hd (k+5) D1 .non (fM A t) (br D (.inr x) (.tup [.int i])) p1 rfl pl pP [(A.on,[.str x],[.int i])] none 2 (Qi t r i) ?_ (by simp only[List.length_cons,List.length_nil];omega) (iZ hd hS w);intro u hu
 cases List.mem_singleton.mp hu
 exact⟨st (k+5),rfl,rfl⟩
end
theorem JM{K:Nat}{d:List (PK×PV)}{S:PV}{l:List PV}{c c2:Nat}{o:Option (List Nat)}{q:Ls}(a:Wl K d S l c o q)(h:c≤c2):Wl K d S l c2 o q:=⟨a.1,fun n ps h1 h2=>by obtain⟨m,hm,e⟩:=a.2 n ps (by omega) h2;exact⟨m,by omega,e⟩⟩
theorem ja{K:Nat}{d:List (PK×PV)}{S nd:PV}{c:Nat}{o:Option (List Nat)}{q:Ls}(a:Wr K d S nd c o q):Wl K d S [nd] c o q:=⟨by rw[ag,a.1];rfl,fun n ps h1 h2=>by
 obtain⟨m,hm,e⟩:=a.2 n ps h1 h2
 cases o with
 |none=>exact⟨m,hm,.cons a.1 e .nil⟩
 |some w=>exact⟨m,hm,.stop a.1 e⟩⟩
theorem eJ{α:Type}(f:α→PV)(g:α→Ls):∀l:List α,ro (l.map fun i=>(f i,none,g i))=none
 |[]=>rfl
 |_::r=>eJ f g r
def Ii(t:Bool)(r:Rc):List It:=r.th.map fun i=>(PV.int i,none,Qi t r i)
def Uq(t:Bool)(r:Rc):Ls:=[40]::(rq [44] 0 (Ii t r)++[[41],r.tg])
section
variable{d:List (PK×PV)}(hd:Oq d=true){A:Nm}{t:Bool}(hA:X7 A t)(r:Rc)(hr:okR r)
include hd hA hr
theorem sR(k:Nat)(D:List (PK×PV))(B:PV)(e:bj D (.inr A.pn)=some (.tup [rv A r]))(pD:aE D=true)(pB:B.pure=true)(lD:D.length≤100)
  (hb:∀i∈r.th,Wr (k+9) d (C_ (br D (.inr A.inn) (.tup [.int i])) B) (W4 A A.inn) 2 none (Qi t r i)):Wl (k+12) d (C_ D B) [tx 40,Fg A,tx 41,U5 [.str A.pn,.str A.tg] wW] 11 none (Uq t r):=by
 have pr:ag [rv A r]=true:=by rw[ag,cR];rfl
 have lp:=wF hd (k+7) A.pn [.str A.ls] (rv A r) [] D B e pD pB rfl pr (by simp) A.inn [44] [W4 A A.inn] (Ii t r) 2 rfl (fun k=>by unfold Ii;rw[List.map_map];exact NJ hA r k) (fun u hu=>by
  obtain⟨i,hi,rfl⟩:=List.mem_map.mp hu;have pP:aE (br D (.inr A.inn) (.tup [.int i]))=true:=aT D _ _ pD rfl;have hS:(C_ (br D (.inr A.inn) (.tup [.int i])) B).pure=true:=by simp only[C_,PV.pure,ag,pP,pB];rfl
  exact⟨rfl,_,hS,xp (k+9) A.inn [.int i] D B (by rw[PV.pure];exact pD) pB rfl (by omega),iZ hd hS (ja (hb i hi))⟩)
 rw[show ro (Ii t r)=none from eJ _ _ _]at lp;have pl:=wD hd (k+5) A.pn [.str A.tg] (rv A r) [] D B e pD pB rfl pr (by simp) r.tg (fun k=>LQ hA r k) hr.2.2.1 hr.2.2.2.1 hr.2.2.2.2;have w:=eY (kA hd (k+10) (C_ D B) [40]) (eY lp (eY (kA hd (k+10) (C_ D B) [41]) (eY pl zv)));have h3:=hr.1;have hl:(Ii t r).length=r.th.length:=by unfold Ii;rw[List.length_map]
 exact JM w (by rw[hl];omega)
theorem CA(k:Nat)(D:List (PK×PV))(n3:List Nat)(ev:bj d (.inr n3)=some (pq (T_ A n3)))(e:bj D (.inr A.tn)=some (.tup [rv A r]))(pD:aE D=true)(lD:D.length≤100):Wr (k+14) d (C_ D .non) (vg A t n3) 11 none (Uq t r):=by
 have pr:ag [rv A r]=true:=by rw[ag,cR];rfl
 have pR:(PV.tup [rv A r]).pure=true:=by rw[PV.pure];exact pr
 have hS:(C_ D .non).pure=true:=by simp only[C_,PV.pure,ag,pD];rfl
 have pl:ag (fM A t)=true:=by cases t<;>rfl
 have st:=fun k=>std k A.tn [] (rv A r) [] D .non e pD rfl rfl pr (by simp);have pP:aE (br [] (.inr A.pn) (.tup [rv A r]))=true:=aT [] _ _ rfl pR;have pB:(PV.tup [.tup [.str A.on],.tup (fM A t),C_ D .non]).pure=true:=by simp only[C_,PV.pure,ag,pl,pD];rfl
 have Xi:(C_ (br [] (.inr A.pn) (.tup [rv A r])) (.tup [.tup [.str A.on],.tup (fM A t),C_ D .non])).pure=true:=by
  have p2:(PV.dct (br [] (.inr A.pn) (.tup [rv A r]))).pure=true:=by rw[PV.pure];exact pP
  show ag [PV.dct _,_]=true;rw[ag,ag,p2,pB];rfl
 have w:=sR hd hA r hr k (br [] (.inr A.pn) (.tup [rv A r])) (.tup [.tup [.str A.on],.tup (fM A t),C_ D .non]) (by rw[bf,if_pos rfl]) pP pB (by have:=nr [] (.inr A.pn) (.tup [rv A r]);simp only[List.length_nil]at this;omega) (fun i hi=>FM hd hA r hr k A.inn _ D i hi pP pD lD e);refine ve hd (k+10) n3 [(A.pn,[.str A.tn],[rv A r])] (.tup [.str A.on]) (.tup (fM A t)) (.str [112,105,101,99,101]) (.str n3) (.int 1) (C_ D .non) [tx 40,Fg A,tx 41,U5 [.str A.pn,.str A.tg] wW] none 11 (Uq t r) hS ?_ (by simp) rfl (by rw[PV.pure];exact pl) rfl w.1 rfl rfl rfl ev (iZ hd Xi w);intro u hu
 cases List.mem_singleton.mp hu
 exact⟨st (k+10),rfl,pr⟩
theorem Cz(k:Nat)(D:List (PK×PV))(n3 n4:List Nat)(YT:bj d (.inr n3)=some (pq (T_ A n3)))(Z0:bj d (.inr n4)=some (pq (Uu A n3 n4)))(e:bj D (.inr A.tn)=some (.tup [rv A r]))(pD:aE D=true)(lD:D.length≤100):Wr (k+18) d (C_ D .non) (vg A t n4) 11 none (Uq t r):=by
 have pr:ag [rv A r]=true:=by rw[ag,cR];rfl
 have pR:(PV.tup [rv A r]).pure=true:=by rw[PV.pure];exact pr
 have hS:(C_ D .non).pure=true:=by simp only[C_,PV.pure,ag,pD];rfl
 have pl:ag (fM A t)=true:=by cases t<;>rfl
 have st:=fun k=>std k A.tn [] (rv A r) [] D .non e pD rfl rfl pr (by simp);obtain⟨B,hB⟩:∃B,B=PV.tup [.tup [.str A.on],.tup (fM A t),C_ D .non]:=⟨_,rfl⟩
 have pB:B.pure=true:=by rw[hB];simp only[C_,PV.pure,ag,pl,pD];rfl
 obtain⟨D2,hD2⟩:∃D2,D2=br [] (.inr A.ot) (.tup [rv A r]):=⟨_,rfl⟩
 have p2:aE D2=true:=by rw[hD2];exact aT [] _ _ rfl pR
 have l2:D2.length≤100:=by have:=nr [] (.inr A.ot) (.tup [rv A r]);simp only[List.length_nil]at this;rw[hD2];omega
 have v2:bj D2 (.inr A.ot)=some (.tup [rv A r]):=by rw[hD2,bf,if_pos rfl]
 have Xi:(C_ D2 B).pure=true:=by simp only[C_,PV.pure,ag,p2,pB];rfl
 obtain⟨D3,hD3⟩:∃D3,D3=br [] (.inr A.pn) (.tup [rv A r]):=⟨_,rfl⟩
 have p3:aE D3=true:=by rw[hD3];exact aT [] _ _ rfl pR
 have l3:D3.length≤100:=by have:=nr [] (.inr A.pn) (.tup [rv A r]);simp only[List.length_nil]at this;rw[hD3];omega
 have v3:bj D3 (.inr A.pn)=some (.tup [rv A r]):=by rw[hD3,bf,if_pos rfl]
 obtain⟨B3,hB3⟩:∃B3,B3=PV.tup [.tup [.str A.pa],.tup [W4 A A.pa],C_ D2 B]:=⟨_,rfl⟩
 have pb1:ag [W4 A A.pa]=true:=rfl;have pB3:B3.pure=true:=by rw[hB3];show ag [_,_,_]=true;rw[ag,ag,ag,Xi];rfl
 have hS3:(C_ D3 B3).pure=true:=by simp only[C_,PV.pure,ag,p3,pB3];rfl
 have w:=sR hd hA r hr (k+2) D3 B3 v3 p3 pB3 l3 (fun i hi=>by
  have pP:aE (br D3 (.inr A.inn) (.tup [.int i]))=true:=aT D3 _ _ p3 rfl;have pQ:aE (br D2 (.inr A.pa) (.tup [.int i]))=true:=aT D2 _ _ p2 rfl;have hQ:(C_ (hnd D2 [(A.pa,[.str A.inn],[.int i])]) B).pure=true:=by rw[LM];simp only[C_,PV.pure,ag,pQ,pB];rfl
  have VF:=fun k=>std k A.inn [] (.int i) [] (br D3 (.inr A.inn) (.tup [.int i])) B3 (by rw[bf,if_pos rfl]) pP pB3 rfl rfl (by decide);have wb:=FM hd hA r hr k A.pa D2 D i hi p2 pD lD e;rw[← hB]at wb
  have wr:=wG hd (k+7) D2 B [W4 A A.pa] (br D3 (.inr A.inn) (.tup [.int i])) p2 pB pb1 pP [(A.pa,[.str A.inn],[.int i])] none 2 (Qi t r i) (by
   intro u hu
   cases List.mem_singleton.mp hu
   have s3:=VF (k+7);rw[hB3]at s3;exact⟨s3,rfl,rfl⟩) (by simp only[List.length_cons,List.length_nil];omega) (iZ hd hQ (ja wb))
  rw[hB3];exact wr)
 have VF:=fun k=>std k A.ot [] (rv A r) [] D2 B v2 p2 pB rfl pr (by simp)
 have iu:=ve hd (k+12) n3 [(A.pn,[.str A.ot],[rv A r])] (.tup [.str A.pa]) (.tup [W4 A A.pa]) (.str [112,105,101,99,101]) (.str n3) (.int 1) (C_ D2 B) [tx 40,Fg A,tx 41,U5 [.str A.pn,.str A.tg] wW] none 11 (Uq t r) Xi (by
  intro u hu
  cases List.mem_singleton.mp hu
  exact⟨VF (k+12),rfl,pr⟩) (by simp) rfl rfl rfl w.1 rfl rfl rfl YT (by have:=iZ hd hS3 w;rw[hB3,hD3]at this;exact this)
 refine ve hd (k+14) n4 [(A.ot,[.str A.tn],[rv A r])] (.tup [.str A.on]) (.tup (fM A t)) (.str [112,105,101,99,101]) (.str n4) (.int 1) (C_ D .non) [.tup [Uv,.str n3,.tup [.tup [.str A.ot]],.tup [.str A.pa],.tup [W4 A A.pa]]] none 11 (Uq t r) hS ?_ (by simp) rfl (by rw[PV.pure];exact pl) rfl rfl rfl rfl rfl Z0 ?_
 ·intro u hu
  cases List.mem_singleton.mp hu
  exact⟨st (k+14),rfl,pr⟩
 ·have:=iZ hd Xi (ja iu);rw[hB,hD2]at this;exact this
end
noncomputable def fw:List Nat:=[102,105,101,108,100]
def ot(r:Rc):Option (List Nat):=if r.tr=true then none else some fw
noncomputable def Lq(r:Rc):Ls:=if r.tr=true then[[121]]else[[110]]
section
variable{d:List (PK×PV)}(hd:Oq d=true){A:Nm}{t:Bool}(hA:X7 A t)(r:Rc)(hr:okR r)
include hd hA hr
theorem Gr(k:Nat)(D:List (PK×PV))(n5:List Nat)(ev:bj d (.inr n5)=some (pq (Ut A n5)))(e:bj D (.inr A.tn)=some (.tup [rv A r]))(pD:aE D=true):Wr (k+11) d (C_ D .non) (zA A n5) 2 (ot r) (Lq r):=by
 have pr:ag [rv A r]=true:=by rw[ag,cR];rfl
 have pf:∀x:List Nat,ag [rv A r,.str x]=true:=fun x=>by rw[ag,cR];rfl
 have pF:∀x:List Nat,(PV.tup [rv A r,.str x]).pure=true:=fun x=>by rw[PV.pure];exact pf x
 have hS:(C_ D .non).pure=true:=by simp only[C_,PV.pure,ag,pD];rfl
 have s1:=fun k=>std k A.tn [.str A.fl] (rv A r) [] D .non e pD rfl rfl pr (by simp);have s2:=fun k=>std k A.tn [.str A.lo] (rv A r) [] D .non e pD rfl rfl pr (by simp);obtain⟨D2,hD2⟩:∃D2,D2=br (br [] (.inr A.pn) (.tup [rv A r,.str A.fl])) (.inr A.se) (.tup [rv A r,.str A.lo]):=⟨_,rfl⟩
 have p2:aE D2=true:=by rw[hD2];exact aT _ _ _ (aT [] _ _ rfl (pF _)) (pF _)
 have Xi:(C_ D2 .non).pure=true:=by simp only[C_,PV.pure,ag,p2];rfl
 have v1:bj D2 (.inr A.pn)=some (.tup [rv A r,.str A.fl]):=by rw[hD2,bf,if_neg (by intro z;exact hA.h7 (Sum.inr.inj z)),bf,if_pos rfl]
 have v2:bj D2 (.inr A.se)=some (.tup [rv A r,.str A.lo]):=by rw[hD2,bf,if_pos rfl]
 have w:Ws (k+8) d (C_ D2 .non) (if r.tr=true then[tx 121]else[tx 110,U5 [.str A.se] wW]) 1 (ot r) (Lq r):=by
  unfold ot Lq
  by_cases c:r.tr=true
  ·rw[if_pos c,if_pos c,if_pos c];exact FK (iZ hd Xi (ja (kA hd (k+5) (C_ D2 .non) [121]))) (by omega)
  ·rw[if_neg c,if_neg c,if_neg c];have z:=Cw hd (k+3) A.se [] (rv A r) [.str A.lo] D2 .non v2 p2 rfl rfl (pf _) (by simp) wW (fun k=>NK hA r k);exact iZ hd Xi (eY (kA hd (k+5) (C_ D2 .non) [110]) (ja z))
 have wc:=xJ hd (k+5) A.pn [] (rv A r) [.str A.fl] D2 .non v1 p2 rfl rfl (pf _) (by simp) [tx 121] [tx 110,U5 [.str A.se] wW] r.tr (ot r) 1 (Lq r) (fun k=>NL hA r k) rfl rfl w;have w2:=iZ hd Xi (ja wc);subst hD2;refine Cv hd (k+7) n5 [(A.pn,[.str A.tn,.str A.fl],[rv A r,.str A.fl]),(A.se,[.str A.tn,.str A.lo],[rv A r,.str A.lo])] (.str [112,105,101,99,101]) (.str n5) .non (C_ D .non) [.tup [Xn,.tup [.str A.pn],.tup [tx 121],.tup [tx 110,U5 [.str A.se] wW]]] (ot r) 2 (Lq r) hS ?_ (by simp) rfl rfl rfl rfl ev ?_
 ·intro u hu;rcases List.mem_cons.mp hu with h|h
  ·subst h;exact⟨s1 (k+7),rfl,pf _⟩
  ·cases List.mem_singleton.mp h;exact⟨s2 (k+7),rfl,pf _⟩
 ·exact w2
theorem CB(k:Nat)(D:List (PK×PV))(n3 n4 n5 nu:List Nat)(YT:bj d (.inr n3)=some (pq (T_ A n3)))(Z0:bj d (.inr n4)=some (pq (Uu A n3 n4)))(ev5:bj d (.inr n5)=some (pq (Ut A n5)))(hu:nu=n3∨nu=n4)(e:bj D (.inr A.tn)=some (.tup [rv A r]))(pD:aE D=true)(lD:D.length≤100):
  Ws (k+19) d (C_ D .non) [vg A t nu,zA A n5] 13 (ot r) (Uq t r++Lq r):=by
 have hS:(C_ D .non).pure=true:=by simp only[C_,PV.pure,ag,pD];rfl
 have a:Wr (k+18) d (C_ D .non) (vg A t nu) 11 none (Uq t r):=by
  rcases hu with h|h
  ·subst h;exact CA hd hA r hr (k+4) D nu YT e pD lD
  ·subst h;exact Cz hd hA r hr k D n3 nu YT Z0 e pD lD
 exact iZ hd hS (eY a (ja (Gr hd hA r hr (k+7) D n5 ev5 e pD)))
end
def Is(A:Nm)(t:Bool)(rs:List Rc):List It:=rs.map fun r=>(rv A r,ot r,Uq t r++Lq r)
def vV(A:Nm)(rs:List Rc):PV:=.dct [(.inr A.Tg,.lst (rs.map (rv A)))]
theorem kK(A:Nm):∀rs:List Rc,ag (rs.map (rv A))=true
 |[]=>rfl
 |r::l=>by rw[List.map_cons,ag,cR,kK A l];rfl
theorem jC(A:Nm)(rs:List Rc):(vV A rs).pure=true:=by unfold vV;rw[PV.pure,aE,PV.pure,kK];rfl
def Bd(A:Nm)(t:Bool)(nu n5:List Nat):List PV:=[.tup [Vr,.str A.tn,.tup [.str A.mn,.str A.Tg],.tup [vg A t nu,zA A n5],.str [59]]]
theorem Gs{d:List (PK×PV)}(hd:Oq d=true){A:Nm}{t:Bool}(hA:X7 A t)(rs:List Rc)(hr:∀r∈rs,okR r)(k:Nat)(n3 n4 n5 nu:List Nat)(YT:bj d (.inr n3)=some (pq (T_ A n3)))(Z0:bj d (.inr n4)=some (pq (Uu A n3 n4)))(ev5:bj d (.inr n5)=some (pq (Ut A n5)))(hu:nu=n3∨nu=n4):
  Ws (k+22) d (C_ [(.inr A.mn,.tup [vV A rs])] .non) (Bd A t nu n5) (14 * rs.length+1) (ro (Is A t rs)) (rq [59] 0 (Is A t rs)):=by
 have pv:ag [vV A rs]=true:=by rw[ag,jC];rfl
 have pD:aE [((.inr A.mn:PK),PV.tup [vV A rs])]=true:=by rw[aE,PV.pure,pv];rfl
 have hS:(C_ [(.inr A.mn,.tup [vV A rs])] .non).pure=true:=by simp only[C_,PV.pure,ag,pD];rfl
 have lp:=wF hd (k+16) A.mn [.str A.Tg] (vV A rs) [] [(.inr A.mn,.tup [vV A rs])] .non (by rw[dO,if_pos rfl]) pD rfl rfl pv (by simp) A.tn [59] [vg A t nu,zA A n5] (Is A t rs) 13 (by cases t<;>rfl) (fun k=>by
   unfold Is;rw[List.map_map];exact sh k _ _ _ (by rw[dO,if_pos rfl];rfl) (jC A rs) (by rw[PV.pure];exact kK A rs)) (fun u Xx=>by
  obtain⟨r,hi,rfl⟩:=List.mem_map.mp Xx;have pR:(PV.tup [rv A r]).pure=true:=by rw[PV.pure,ag,cR];rfl
  have pP:aE (br [((.inr A.mn:PK),PV.tup [vV A rs])] (.inr A.tn) (.tup [rv A r]))=true:=aT _ _ _ pD pR;have hS1:(C_ (br [((.inr A.mn:PK),PV.tup [vV A rs])] (.inr A.tn) (.tup [rv A r])) .non).pure=true:=by simp only[C_,PV.pure,ag,pP];rfl
  have ln:(br [((.inr A.mn:PK),PV.tup [vV A rs])] (.inr A.tn) (.tup [rv A r])).length≤100:=by have:=nr [((.inr A.mn:PK),PV.tup [vV A rs])] (.inr A.tn) (.tup [rv A r]);simp only[List.length_cons,List.length_nil]at this;omega
  exact⟨cR A r,_,hS1,xp (k+18) A.tn [rv A r] _ .non (by rw[PV.pure];exact pD) rfl (by rw[ag,cR];rfl) (by simp),CB hd hA r (hr r hi) k _ n3 n4 n5 nu YT Z0 ev5 hu (by rw[bf,if_pos rfl]) pP ln⟩)
 have w:=iZ hd hS (ja lp);refine FK w ?_;unfold Is;rw[List.length_map];omega
theorem tj{v:Int}(h1: -1000000000000000000000000000000<v)(h2:v<1000000000000000000000000000000):(gN v).length≤1921:=by have:=PyProof.Rows.int_text_len_1921 (jI h1 h2);unfold gN;rw[Array.length_toList];exact this
theorem vx(bt:List Nat)(m:Nat):∀(its:List It)(i:Nat),(∀t∈its,t.2.2.length≤m)→(rq bt i its).length≤(m+1) * its.length
 |[],_,_=>Nat.zero_le _
 |(v,none,q)::r,i,h=>by
  have h1:=h _ List.mem_cons_self;have h2:=vx bt m r (i+1) fun t ht=>h t (List.mem_cons_of_mem _ ht);have h3:(if i>0 then[bt]else[]).length≤1:=by split<;>simp
  rw[rq,List.length_append,List.length_append,List.length_cons,Nat.mul_succ];dsimp only at h1;omega
 |(v,some z,q)::r,i,h=>by
  have h1:=h _ List.mem_cons_self;have h3:(if i>0 then[bt]else[]).length≤1:=by split<;>simp
  rw[rq,List.length_append,List.length_cons,Nat.mul_succ];dsimp only at h1;have:=Nat.zero_le ((m+1) * r.length);omega
theorem nW(bt:List Nat):∀(its:List It)(i:Nat)(x:List Nat),x∈rq bt i its→x=bt∨∃t∈its,x∈t.2.2
 |[],_,x,h=>by rw[rq]at h;cases h
 |(v,none,q)::r,i,x,h=>by
  rw[rq]at h;rcases List.mem_append.mp h with h|h
  ·rcases List.mem_append.mp h with h|h
   ·split at h
    ·exact Or.inl (List.mem_singleton.mp h)
    ·cases h
   ·exact Or.inr ⟨_,List.mem_cons_self,h⟩
  ·rcases nW bt r (i+1) x h with h|⟨t,ht,h⟩
   ·exact Or.inl h
   ·exact Or.inr ⟨t,List.mem_cons_of_mem _ ht,h⟩
 |(v,some z,q)::r,i,x,h=>by
  rw[rq]at h;rcases List.mem_append.mp h with h|h
  ·split at h
   ·exact Or.inl (List.mem_singleton.mp h)
   ·cases h
  ·exact Or.inr ⟨_,List.mem_cons_self,h⟩
theorem sZ(M:Nat):∀l:Ls,(∀x∈l,x.length≤M)→(l.map (fun l=>l.length)).sum≤M * l.length
 |[],_=>Nat.zero_le _
 |a::r,h=>by have h1:=h a List.mem_cons_self;have h2:=sZ M r fun x hx=>h x (List.mem_cons_of_mem _ hx);simp only[List.map_cons,List.sum_cons,List.length_cons,Nat.mul_succ];omega
section
variable(t:Bool)(r:Rc)(hr:okR r)
include hr
theorem Cj(i:Int)(hi:i∈r.th):(Qi t r i).length≤3∧∀x∈Qi t r i,x.length≤1921:=by
 have h:=hr.2.1 i hi;have s:=tj (v:=i) (by omega) (by omega);have l:=hr.2.2.2.1;unfold Qi
 cases t with
 |false=>exact⟨by simp,fun x hx=>by cases List.mem_singleton.mp hx;exact s⟩
 |true=>
  refine⟨Nat.le_refl _,fun x hx=>?_⟩;simp only[if_true,List.mem_cons,List.not_mem_nil,or_false]at hx;rcases hx with rfl|rfl|rfl
  ·exact s
  ·decide
  ·omega
theorem Cf:(Uq t r++Lq r).length≤16∧∀x∈Uq t r++Lq r,x.length≤1921:=by
 have hl:(Ii t r).length=r.th.length:=by unfold Ii;rw[List.length_map]
 have h3:=hr.1;have l:=hr.2.2.2.1
 have a:=vx [44] 3 (Ii t r) 0 fun u hu=>by obtain⟨i,hi,rfl⟩:=List.mem_map.mp hu;exact(Cj t r hr i hi).1
 have b:=nW [44] (Ii t r) 0;rw[hl]at a
 have lq:(Lq r).length=1∧∀x∈Lq r,x.length≤1921:=by unfold Lq;split<;>exact⟨rfl,fun x hx=>by cases List.mem_singleton.mp hx;decide⟩
 refine⟨?_,fun x hx=>?_⟩
 ·unfold Uq;simp only[List.length_append,List.length_cons,List.length_nil,lq.1];omega
 ·unfold Uq at hx;rcases List.mem_append.mp hx with hx|hx
  ·rcases List.mem_cons.mp hx with rfl|hx
   ·decide
   ·rcases List.mem_append.mp hx with hx|hx
    ·rcases b x hx with rfl|⟨u,hu,hx⟩
     ·decide
     ·obtain⟨i,hi,rfl⟩:=List.mem_map.mp hu;exact(Cj t r hr i hi).2 x hx
    ·simp only[List.mem_cons,List.not_mem_nil,or_false]at hx;rcases hx with rfl|rfl
     ·decide
     ·omega
  ·exact lq.2 x hx
end
theorem Mh(A:Nm)(t:Bool)(rs:List Rc)(h4:rs.length≤4)(hr:∀r∈rs,okR r):(rq [59] 0 (Is A t rs)).length≤68∧((rq [59] 0 (Is A t rs)).map (fun l=>l.length)).sum≤16777216:=by
 have hl:(Is A t rs).length=rs.length:=by unfold Is;rw[List.length_map]
 have a:=vx [59] 16 (Is A t rs) 0 fun u hu=>by obtain⟨r,hi,rfl⟩:=List.mem_map.mp hu;exact(Cf t r (hr r hi)).1
 have b:=sZ 1921 (rq [59] 0 (Is A t rs)) fun x hx=>by
  rcases nW [59] (Is A t rs) 0 x hx with rfl|⟨u,hu,hx⟩
  ·decide
  ·obtain⟨r,hi,rfl⟩:=List.mem_map.mp hu;exact(Cf t r (hr r hi)).2 x hx
 rw[hl]at a;exact⟨by omega,by omega⟩
theorem DL(A:Nm)(t:Bool)(nu n3 n4 n5 n6:List Nat):VG [] [T_ A n3,Uu A n3 n4,Ut A n5,VB A t nu n5 n6]=br (br (br (br [] (.inr n3) (pq (T_ A n3))) (.inr n4) (pq (Uu A n3 n4))) (.inr n5) (pq (Ut A n5))) (.inr n6) (pq (VB A t nu n5 n6)):=rfl
theorem mj{x y:List Nat}(h:x≠y):(Sum.inr x:PK)≠.inr y:=fun z=>h (Sum.inr.inj z)
theorem sP(k:Nat){A:Nm}{t:Bool}(hA:X7 A t)(rs:List Rc)(h4:rs.length≤4)(hr:∀r∈rs,okR r)(n3 n4 n5 n6 nu:List Nat)(hu:nu=n3∨nu=n4)(c1:n3≠n4)(c2:n3≠n5)(c3:n3≠n6)(c4:n4≠n5)(c5:n4≠n6)(c6:n5≠n6)(e0:F (k+22) .z_ [.tup [.str A.mn],.dct [(.inr A.mn,vV A rs)]]=.ok .non):
  F (k+23) .written [.tup [pq (T_ A n3),pq (Uu A n3 n4),pq (Ut A n5),pq (VB A t nu n5 n6)],.dct [(.inr A.mn,vV A rs)]]=.ok (lL (ro (Is A t rs)) (rq [59] 0 (Is A t rs))):=by
 have pb:ag (fM A t)=true:=by cases t<;>rfl
 have pm:ag (Bd A t nu n5)=true:=by cases t<;>rfl
 have q3:ag (VB A t nu n5 n6).2=true:=by cases t<;>rfl
 have pk:aE (VG [] [T_ A n3,Uu A n3 n4,Ut A n5,VB A t nu n5 n6])=true:=by rw[DL];exact aT _ _ _ (aT _ _ _ (aT _ _ _ (aT _ _ _ rfl (cS rfl)) (cS rfl)) (cS rfl)) (cS q3)
 have hd:Oq (VG [] [T_ A n3,Uu A n3 n4,Ut A n5,VB A t nu n5 n6])=true:=Bv 4 _ pk
 have v3:bj (VG [] [T_ A n3,Uu A n3 n4,Ut A n5,VB A t nu n5 n6]) (.inr n3)=some (pq (T_ A n3)):=by rw[DL,bf,if_neg (mj c3),bf,if_neg (mj c2),bf,if_neg (mj c1),bf,if_pos rfl]
 have v4:bj (VG [] [T_ A n3,Uu A n3 n4,Ut A n5,VB A t nu n5 n6]) (.inr n4)=some (pq (Uu A n3 n4)):=by rw[DL,bf,if_neg (mj c5),bf,if_neg (mj c4),bf,if_pos rfl]
 have v5:bj (VG [] [T_ A n3,Uu A n3 n4,Ut A n5,VB A t nu n5 n6]) (.inr n5)=some (pq (Ut A n5)):=by rw[DL,bf,if_neg (mj c6),bf,if_pos rfl]
 obtain⟨b1,b2⟩:=Mh A t rs h4 hr;obtain⟨n2,_,e2⟩:=(Gs hd hA rs hr k n3 n4 n5 nu v3 v4 v5 hu).2 0 [] (by omega) (by rw[List.length_nil];omega);rw[List.nil_append]at e2;have pV:(PV.dct [(.inr A.mn,vV A rs)]).pure=true:=by rw[PV.pure,aE,jC];rfl
 have pR:aE [((.inr A.mn:PK),PV.tup [vV A rs])]=true:=by rw[aE,PV.pure,ag,jC];rfl
 exact vd (k+20) (T_ A n3) (Uu A n3 n4) (Ut A n5) n6 (.tup [.str A.mn]) .non (.dct [(.inr A.mn,vV A rs)]) [(.inr A.mn,.tup [vV A rs])] (Bd A t nu n5) (ro (Is A t rs)) n2 (rq [59] 0 (Is A t rs)) pV pR rfl rfl rfl rfl rfl pm b2 hd e0 (Kr (k+21) A.mn (vV A rs) (jC A rs)) e2
theorem vM{α:Type}{te:Ex}{cp:Ev}{h:List PO}(f g:α→PV)(l:List α)(h2:∀x∈l,te (some (f x)::cp) h=.ok (g x) h):cx ft te cp (l.map f) h=.ok (l.map g) h:=by
 induction l with
 |nil=>rfl
 |cons a r ih=>rw[List.map_cons,cx];show(te (some (f a)::cp) h).bind _=_;rw[h2 a List.mem_cons_self];show(cx ft te cp (r.map f) h).bind _=_;rw[ih fun x hx=>h2 x (List.mem_cons_of_mem _ hx)];rfl
theorem Kp(a:List Nat):rE a 1=a:=by simp[rE]
theorem Kq(a:List Nat):rE a 0= []:=by simp[rE]
noncomputable def dT(rs:List Rc):PV:=.lst (rs.map fun r=>.lst (r.th.map PV.int))
noncomputable def dG(rs:List Rc):PV:=.lst (rs.map fun r=>.str r.tg)
noncomputable def dB(rs:List Rc):PV:=.lst (rs.map fun r=>.bl r.tr)
theorem FT(b:Bool)(a:List Nat)(h:List PO)(hl:a.length≤1000):iH (.str a) (.int (if b=true then 1 else 0)) h=.ok (.str (if b=true then a else[])) h:=by
 cases b with
 |true=>rw[Bb,if_pos ⟨rfl,by show a.length * Int.toNat 1≤_;simp;omega⟩];simp only[if_true,Kp]
 |false=>rw[Bb,if_pos ⟨rfl,by show a.length * Int.toNat 0≤_;simp⟩];simp[Kq]
theorem BO(t:Bool)(r:Rc)(hr:okR r)(k:Nat)(G:PV)(j:Int)(dg:∀h,ao h G=G)(hG:∀h,B_ G (.int j) h=.ok (.str r.tg) h)(i:Int)(hi:i∈r.th)(h:List PO):jM (F k) [some (.int i),some (.bl t),some G,some (.int j)] h=.ok (.str (Qi t r i).flatten) h:=by
 have h1:=hr.2.1 i hi;have l:=hr.2.2.2.1;have lg:=jI (v:=i) (by omega) (by omega);have sl:=tj (v:=i) (by omega) (by omega);have a1:1+r.tg.length≤16777216:=by omega
 have mb:∀h,iH (.str (58::r.tg)) (.int (if t=true then 1 else 0)) h=.ok (.str (if t=true then 58::r.tg else[])) h:=fun h=>FT t _ h (by simp only[List.length_cons];omega)
 have a2:(gN i).length+(if t=true then 58::r.tg else[]).length≤16777216:=by
  cases t
  ·simp;omega
  ·simp;omega
 simp only[EV,jM,lg,dg,hG,a1,mb,a2];unfold Qi
 cases t
 ·simp
 ·simp
theorem zb(its:List It)(hn:∀u∈its,u.2.1=none):(rq [44] 0 its).flatten=dI [44] (its.map fun u=>u.2.2.flatten):=by
 have ht:∀(its:List It)(i:Nat),(∀u∈its,u.2.1=none)→(rq [44] (i+1) its).flatten=(its.map fun u=>44::u.2.2.flatten).flatten:=by
  intro its
  induction its with
  |nil=>intro i _;rfl
  |cons u r ih=>
   intro i h;obtain⟨v,o,q⟩:=u
   cases(h _ List.mem_cons_self:o=none)
   rw[rq,if_pos (by omega),List.flatten_append,List.flatten_append,ih (i+1) fun x hx=>h x (List.mem_cons_of_mem _ hx)];simp
 cases its with
 |nil=>rfl
 |cons u r=>
  obtain⟨v,o,q⟩:=u
  cases(hn _ List.mem_cons_self:o=none)
  rw[rq,if_neg (by omega),List.nil_append,List.flatten_append,ht r 0 fun x hx=>hn x (List.mem_cons_of_mem _ hx)];clear hn ht;show _=dI [44] (q.flatten::r.map fun u=>u.2.2.flatten)
  induction r generalizing q with
  |nil=>simp[dI]
  |cons u r ih=>
   have:=ih u.2.2;rw[List.map_cons,List.map_cons,dI,← this]
   ·simp
   ·intro z;cases z
theorem Fv(a b:List Nat)(h:List PO)(hz:a.length+b.length≤16777216):bo (.str a) (.str b) h=.ok (.str (a++b)) h:=by rw[nH,if_pos (Nat.le_trans hz (by decide))]
theorem EC{ls:List (List Nat)}(hz:(ls.map (fun l=>l.length)).sum+ls.length≤1000000)(h:List PO):gK (.str [44]) [.lst (ls.map PV.str)] h=.ok (.str (dI [44] ls)) h:=om rfl (by simp only[List.length_cons,List.length_nil];omega)
noncomputable def sp(j:Nat):List Nat:=if j>0 then[59]else[]
theorem GO(j:Nat)(h:List PO):iH (.str [59]) (.int (if decide ((0+(j:Int))>0)=true then 1 else 0)) h=.ok (.str (sp j)) h:=by
 rw[FT (decide ((0+(j:Int))>0)) [59] h (by decide)];unfold sp
 by_cases z:j>0
 ·rw[if_pos z,decide_eq_true (by omega)];rfl
 ·rw[if_neg z,decide_eq_false (by omega)];rfl
def dRf(w:List Nat):PV:=.tup [.str [114,101,102,117,115,101,100],.str fw,.str w]
theorem qu:∀ls:Ls,(dI [44] ls).length≤(ls.map (fun l=>l.length)).sum+ls.length
 |[]=>Nat.le_refl _
 |[x]=>by simp[dI]
 |x::y::r=>by
  have:=qu (y::r);rw[dI]
  ·simp only[List.length_append,List.length_cons,List.length_nil,List.map_cons,List.sum_cons]at this ⊢;omega
  ·intro z;cases z
theorem Fz(t:Bool)(r:Rc):(Uq t r).flatten=40::(dI [44] (r.th.map fun i=>(Qi t r i).flatten)++41::r.tg):=by unfold Uq;rw[List.flatten_cons,List.flatten_append,zb (Ii t r) (fun u hu=>by obtain⟨i,_,rfl⟩:=List.mem_map.mp hu;rfl)];unfold Ii;rw[List.map_map];simp;rfl
theorem BN(t:Bool)(rs:List Rc)(k:Nat)(j:Nat)(r:Rc)(hj:rs[j]? =some r)(hr:okR r)(acc:List Nat)(la:acc.length≤1000000)(x6:Option PV):∃XQ,gR (F k) [some (dT rs),some (dG rs),some (dB rs),some (.bl t),some (.str acc),some (.int (0+(j:Nat))),x6] []=
  if r.tr=true then .nx [some (dT rs),some (dG rs),some (dB rs),some (.bl t),some (.str (acc++(sp j++((Uq t r).flatten++ [121])))),some (.int (0+(j:Nat))),XQ] []else .rt (dRf (acc++(sp j++((Uq t r).flatten++ [110])))) []:=by
 have j0:(0:Int)≤0+(j:Nat):=by omega
 have jn:(0+((j:Nat):Int)).toNat=j:=by omega
 have hT:∀h,B_ (dT rs) (.int (0+(j:Nat))) h=.ok (.lst (r.th.map PV.int)) h:=fun h=>by unfold dT;rw[qr,di j0 (by rw[jn,List.getElem?_map,hj];rfl)];rfl
 have hG:∀h,B_ (dG rs) (.int (0+(j:Nat))) h=.ok (.str r.tg) h:=fun h=>by unfold dG;rw[qr,di j0 (by rw[jn,List.getElem?_map,hj];rfl)];rfl
 have hB:∀h,B_ (dB rs) (.int (0+(j:Nat))) h=.ok (.bl r.tr) h:=fun h=>by unfold dB;rw[qr,di j0 (by rw[jn,List.getElem?_map,hj];rfl)];rfl
 have gT:∀h,ao h (dT rs)=dT rs:=fun h=>rfl;have gG:∀h,ao h (dG rs)=dG rs:=fun h=>rfl;have gB:∀h,ao h (dB rs)=dB rs:=fun h=>rfl
 have cm:∀h,cx ft (jM (F k)) [some (.bl t),some (dG rs),some (.int (0+(j:Nat)))] (r.th.map PV.int) h=.ok ((r.th.map fun i=>(Qi t r i).flatten).map PV.str) h:=fun h=>by rw[List.map_map];exact vM PV.int _ r.th fun i hi=>BO t r hr k (dG rs) _ gG hG i hi h
 have ql:∀i∈r.th,(Qi t r i).flatten.length≤6000:=fun i hi=>by obtain⟨a,b⟩:=Cj t r hr i hi;have:=sZ 1921 (Qi t r i) b;rw[List.length_flatten];exact Nat.le_trans this (by omega)
 have h3:=hr.1;have l40:=hr.2.2.2.1;rw[Fz];generalize hq:(r.th.map fun i=>(Qi t r i).flatten)=qs at cm;have q3:qs.length≤3:=by rw[← hq,List.length_map];exact h3
 have qs6:=sZ 6000 qs fun x hx=>by rw[← hq]at hx;obtain⟨i,hi,rfl⟩:=List.mem_map.mp hx;exact ql i hi
 have jo:=fun h=>EC (ls:=qs) (by omega) h;have jl:=qu qs;have jl:(dI [44] qs).length≤20000:=by omega
 generalize dI [44] qs=J at jo jl;have rl:(r.th.map PV.int).length<16777216:=by rw[List.length_map];omega
 have spl:(sp j).length≤1:=by unfold sp;split<;>simp
 have sr:=GO j;generalize hs:sp j=s at sr spl;refine⟨some (.lst (qs.map PV.str)),?_⟩;have ad:∀x y:List Nat,x.length+y.length≤2000000→∀h,bo (.str x) (.str y) h=.ok (.str (x++y)) h:=fun x y l h=>Fv x y h (by omega);have a1:=ad acc s (by omega);have a2:=ad (acc++s) [40] (by simp;omega);have a3:=ad (acc++s++ [40]) J (by simp;omega);have a4:=ad (acc++s++ [40]++J) [41] (by simp;omega);have a5:=ad (acc++s++ [40]++J++ [41]) r.tg (by simp;omega);have a6:=fun c=>ad (acc++s++ [40]++J++ [41]++r.tg) [c] (by simp;omega)
 cases ht:r.tr with
 |true=>rw[ht]at hB;simp only[EV, -nH,gR,ei,Option.getD_some,gT,gG,gB,hT,hG,hB,cm,rl,sr,VH,jo,a1,a2,a3,a4,a5,a6];simp only[List.append_assoc,List.cons_append,List.nil_append,if_true]
 |false=>rw[ht]at hB;simp only[EV, -nH,gR,ei,Option.getD_some,gT,gG,gB,hT,hG,hB,cm,rl,sr,VH,jo,a1,a2,a3,a4,a5,a6];simp only[List.append_assoc,List.cons_append,List.nil_append];rfl
theorem JB(t:Bool)(r:Rc)(hr:okR r):(Uq t r).flatten.length≤100000:=by obtain⟨a,b⟩:=Cf t r hr;have:=sZ 1921 (Uq t r) fun x hx=>b x (List.mem_append_left _ hx);rw[List.length_append]at a;rw[List.length_flatten];exact Nat.le_trans this (by omega)
theorem xV(bt:List Nat)(i:Nat)(v:PV)(q:Ls)(r:List It):rq bt i ((v,none,q)::r)=(if i>0 then[bt]else[])++q++rq bt (i+1) r:=rfl
theorem xU(bt w:List Nat)(i:Nat)(v:PV)(q:Ls)(r:List It):rq bt i ((v,some w,q)::r)=(if i>0 then[bt]else[])++q:=rfl
theorem wQ(j:Nat):(if j>0 then[[59]]else[]).flatten=sp j:=by unfold sp;split<;>rfl
def Jh(rs:List Rc)(t:Bool)(o:Option (List Nat))(acc:List Nat)(x5 x6:Option PV):SR:=match o with
 |none=>.nx [some (dT rs),some (dG rs),some (dB rs),some (.bl t),some (.str acc),x5,x6] []
 |some _=>.rt (dRf acc) []
theorem uI(A:Nm)(t:Bool)(rs:List Rc)(k:Nat):∀(rest:List Rc)(j:Nat)(acc:List Nat)(x5 x6:Option PV),(∀i r,rest[i]? =some r→rs[j+i]? =some r)→(∀r∈rest,okR r)→acc.length+200000 * rest.length≤900000→
  ∃x5' XQ,bD (PL 5) (gR (F k)) ((List.range' j rest.length).map fun i=>PV.int (0+(i:Nat))) [some (dT rs),some (dG rs),some (dB rs),some (.bl t),some (.str acc),x5,x6] []=Jh rs t (ro (Is A t rest)) (acc++(rq [59] j (Is A t rest)).flatten) x5' XQ
 |[],j,acc,x5,x6,_,_,_=>⟨x5,x6,by show SR.nx _ _=SR.nx _ _;rw[show(rq [59] j (Is A t [])).flatten= []from rfl,List.append_nil]⟩
 |r::l,j,acc,x5,x6,hs,hr,hl=>by
  have r0:=hr r List.mem_cons_self;rw[List.length_cons]at hl;obtain⟨XQ,st⟩:=BN t rs k j r (by have:=hs 0 r rfl;rwa [Nat.add_zero]at this) r0 acc (by omega) x6;have ul:=JB t r r0;have sl:(sp j).length≤1:=by unfold sp;split<;>simp
  rw[List.length_cons,List.range'_succ,List.map_cons];have ic:Is A t (r::l)=(rv A r,ot r,Uq t r++Lq r)::Is A t l:=rfl;rw[ic]
  cases ht:r.tr with
  |true=>
   rw[ht]at st;obtain⟨y5,y6,lp⟩:=uI A t rs k l (j+1) (acc++(sp j++((Uq t r).flatten++ [121]))) (some (.int (0+(j:Nat)))) XQ (fun i r hi=>by have:=hs (i+1) r hi;rw[show j+1+i=j+(i+1) by omega];exact this) (fun r h=>hr r (List.mem_cons_of_mem _ h)) (by simp only[List.length_append,List.length_cons,List.length_nil];omega);refine⟨y5,y6,(ff rfl st).trans (lp.trans ?_)⟩;have o0:ot r=none:=by unfold ot;rw[ht];rfl
   have q0:Lq r= [[121]]:=by unfold Lq;rw[ht];rfl
   rw[o0,q0,xV,List.flatten_append,List.flatten_append,wQ,List.flatten_append];rw[show ro ((rv A r,none,Uq t r++ [[121]])::Is A t l)=ro (Is A t l)from rfl];simp only[List.append_assoc];rfl
  |false=>
   rw[ht]at st;have o0:ot r=some fw:=by unfold ot;rw[ht];rfl
   have q0:Lq r= [[110]]:=by unfold Lq;rw[ht];rfl
   refine⟨x5,x6,?_⟩;rw[o0,q0,xU,List.flatten_append,wQ,List.flatten_append];have lr:∀{g:Gx}{b:Sx}{p e:PV}{r:List PV}{ρ ρ1:Ev}{h h2:List PO}(hg:g p ρ=some ρ1)(hb:b ρ1 h=.rt e h2),bD g b (p::r) ρ h=.rt e h2:=fun hg hb=>by simp only[bD,hg,hb]
   exact lr rfl st
theorem mY(A:Nm)(t:Bool):∀rs:List Rc,ro (Is A t rs)=none∨ro (Is A t rs)=some fw
 |[]=>Or.inl rfl
 |r::l=>by
  have ic:Is A t (r::l)=(rv A r,ot r,Uq t r++Lq r)::Is A t l:=rfl;rw[ic]
  cases ht:r.tr with
  |true=>
   have o0:ot r=none:=by unfold ot;rw[ht];rfl
   rw[o0];exact mY A t l
  |false=>
   have o0:ot r=some fw:=by unfold ot;rw[ht];rfl
   rw[o0];exact Or.inr rfl
theorem Jk(A:Nm)(t:Bool)(rs:List Rc)(k:Nat)(h4:rs.length≤4)(hr:∀r∈rs,okR r):F (k+1) .O9 [dT rs,dG rs,dB rs,.bl t]=.ok (lL (ro (Is A t rs)) (rq [59] 0 (Is A t rs))):=by
 obtain⟨y5,y6,lp⟩:=uI A t rs k rs 0 [] none none (fun i r h=>by rw[Nat.zero_add];exact h) hr (by rw[List.length_nil];omega);rw[List.nil_append]at lp;show aJ (jP (F k)) 4 7 [dT rs,dG rs,dB rs,.bl t]=_;have ln:∀h,gk [dT rs] h=.ok (.int rs.length) h:=fun h=>by show Res.ok (PV.int (rs.map _).length) h=_;rw[List.length_map]
 have gT:∀h,ao h (dT rs)=dT rs:=fun h=>rfl;have rg:(List.range (Int.toNat (rs.length:Int))).map (fun i=>PV.int (0+(i:Nat)))=(List.range' 0 rs.length).map fun i=>PV.int (0+(i:Nat)):=by rw[Int.toNat_natCast,List.range_eq_range']
 have bb:Ua 4611686018427387904 (rs.length:Int)=true:=fj.mpr ⟨by omega,by omega⟩;rcases mY A t rs with o|o
 ·rw[o]at lp ⊢;simp only[Jh]at lp;simp only[EV,aJ,jP,gT,ln,bb,rg,lp];exact dE _ rfl
 ·rw[o]at lp ⊢;simp only[Jh]at lp;simp only[EV,aJ,jP,gT,ln,bb,rg,lp];exact dE _ rfl
noncomputable def CW:List (List Nat):=[[97,115],[98,101,116,119,101,101,110],[98,111,100,121],[101,108,115,101],[101,110,100],[102,111,114],[105,102],[105,110],[112,105,101,99,101],[117,115,101],[119,105,116,104]]
theorem Gn:∀l∈CW,∀c∈l,c<1114112:=by decide
theorem Mj:eP=CW:=rfl
theorem Ml:∀c∈aS,c<1114112:=by decide
def lO(w:List Nat):Prop:=1≤w.length∧w.length≤8∧∀c∈w,c∈aS
def WX(w:List Nat):Prop:=lO w∧w∉CW
theorem qq{w:List Nat}(h:lO w):∀c∈w,c<1114112:=fun c hc=>Ml c (h.2.2 c hc)
theorem K1(k:Nat)(w:List Nat)(hw:WX w):F (k+2) .K1 [.str w]=.ok (.bl true):=by
 show aJ (ie (F (k+1))) 1 1 [.str w]=_;have m:=made k w aS;have n:=Gd (qq hw.1) Gn;obtain⟨⟨h1,h2,h3⟩,h4⟩:=hw;have hz:w.length≤16777216:=by omega
 have d1:decide ((1:Int)≤(w.length:Int))=true:=decide_eq_true (by omega);have d2:decide ((w.length:Int)≤8)=true:=decide_eq_true (by omega);rw[ww h3]at m;rw[decide_eq_false h4]at n;simp only[EV,aJ,ie,hz,d1,d2,bX,m,Mj,n,dJ]
def Vd(m:Nat)(d:Int)(p:PV):Prop:=p.pure=true∧∀k,F (k+m) .n_ [p,.int d]=.ok (.bl true)
theorem FN{m:Nat}{d:Int}{p:PV}(h:Vd m d p){m2:Nat}(hm:m≤m2):Vd m2 d p:=⟨h.1,fun k=>by
 have:=h.2 (k+(m2 - m))
 rwa [show k+(m2 - m)+m=k+m2 by omega]at this⟩
section
variable{d:Int}(hd:1≤d)
include hd
theorem JQ(b:Bool):Vd 1 d (.bl b):=⟨rfl,fun k=>by show aJ (aK (F k)) 2 2 [.bl b,.int d]=_;have c1:decide (d<1)=false:=decide_eq_false (by omega);simp only[EV,aJ,aK,c1,dJ]⟩
theorem Gy(i:Int)(h1: -1000000000000000000000000000000<i)(h2:i<1000000000000000000000000000000):Vd 2 d (.int i):=⟨rfl,fun k=>by
 show aJ (aK (F (k+1))) 2 2 [.int i,.int d]=_;have c1:decide (d<1)=false:=decide_eq_false (by omega)
 have e:F (k+1) .o9 [.int i]=.ok (.bl true):=by show aJ (bp (F k)) 1 1 [.int i]=_;have p1:decide (Int.natAbs 10<18446744073709551616)=true:=rfl;have p2:decide ((if i<0 then -i else i)<1000000000000000000000000000000)=true:=decide_eq_true (by split<;>omega);simp only[EV,aJ,bp,dJ,p1,p2,Int.reduceToNat]
 simp only[EV,aJ,aK,c1,bX,e,dJ]⟩
theorem Gw(l:List Nat)(h1:l.length≤400)(h:∀c∈l,c∈fA):Vd 3 d (.str l):=⟨rfl,fun k=>by show aJ (aK (F (k+2))) 2 2 [.str l,.int d]=_;have c1:decide (d<1)=false:=decide_eq_false (by omega);have e:=wK k l 400 400 rfl h1 (by omega) h;simp only[EV,aJ,aK,c1,bX,e,dJ]⟩
omit hd in
theorem are(m k:Nat)(xs:List PV)(n:Int)(hx:∀x∈xs,Vd m n x):F (k+m+1) .j_ [.lst xs,.int n]=.ok (.bl true):=by
 have lp:∀(l:List PV)(o:Option PV),(∀x∈l,Vd m n x)→∃o',bD (PL 2) (cO (F (k+m))) l [some (.lst xs),some (.int n),o] []=.nx [some (.lst xs),some (.int n),o'] []:=by
  intro l
  induction l with
  |nil=>intro o _;exact⟨o,rfl⟩
  |cons q r ih=>intro o h;obtain⟨o',e⟩:=ih (some q) fun x hx=>h x (List.mem_cons_of_mem _ hx);obtain⟨p,w⟩:=h q List.mem_cons_self;refine⟨o',(ff rfl ?_).trans e⟩;have z:∀h,bR (F (k+m) .n_) [q,.int n] h=.ok (.bl true) h:=fun h=>bh h (by simp only[ag,p];rfl) (w k);simp only[EV,cO,aq _ p,z]
 obtain⟨o',e⟩:=lp xs none hx;show aJ (bS (F (k+m))) 2 3 [.lst xs,.int n]=_;simp only[EV,aJ,bS,e,dJ]
omit hd in
theorem nK{m:Nat}{n:Int}:∀{xs:List PV},(∀x∈xs,Vd m n x)→ag xs=true
 |[],_=>rfl
 |x::r,h=>by rw[ag,(h x List.mem_cons_self).1,nK fun y hy=>h y (List.mem_cons_of_mem _ hy)];rfl
theorem zy{m:Nat}(xs:List PV)(hl:xs.length≤40)(hx:∀x∈xs,Vd m (d - 1) x):Vd (m+2) d (.lst xs):=by
 have pl:(PV.lst xs).pure=true:=by rw[PV.pure];exact nK hx
 refine⟨pl,fun k=>?_⟩;have e:=are m k xs (d - 1) hx;show aJ (aK (F (k+m+1))) 2 2 [.lst xs,.int d]=_;have c1:decide (d<1)=false:=decide_eq_false (by omega);have e1:decide ((xs.length:Int)≤40)=true:=decide_eq_true (by omega);have z:∀h,bR (F (k+m+1) .j_) [.lst xs,.int (d - 1)] h=.ok (.bl true) h:=fun h=>bh h (by simp only[ag,pl];rfl) e;simp only[EV,aJ,aK,c1,z,e1,dJ]
abbrev Kv:=List Nat×PV
noncomputable def Ux(l:List Kv):List (PK×PV):=l.map fun p=>(.inr p.1,p.2)
omit hd in
theorem uk:∀l:List Kv,(∀p∈l,p.2.pure=true)→aE (Ux l)=true
 |[],_=>rfl
 |p::r,h=>by show aE ((.inr p.1,p.2)::Ux r)=true;rw[aE,h p List.mem_cons_self,uk r fun q hq=>h q (List.mem_cons_of_mem _ hq)];rfl
theorem zw{m:Nat}(l:List Kv)(hl:l.length≤8)(hn:∀p∈l,WX p.1)(hx:∀p∈l,Vd (m+1) (d - 1) p.2):Vd (m+4) d (.dct (Ux l)):=by
 have pk:=uk l fun p hp=>(hx p hp).1;have pd:(PV.dct (Ux l)).pure=true:=by rw[PV.pure];exact pk
 refine⟨pd,fun k=>?_⟩
 have lp:∀(r:List Kv)(o:Option PV),(∀p∈r,WX p.1)→∃o',bD (PL 2) (cX (F (k+m+2))) (r.map fun p=>PV.str p.1) [some (.dct (Ux l)),some (.int d),o] []=.nx [some (.dct (Ux l)),some (.int d),o'] []:=by
  intro r
  induction r with
  |nil=>intro o _;exact⟨o,rfl⟩
  |cons q r ih=>intro o h;obtain⟨o',e⟩:=ih (some (.str q.1)) fun x hx=>h x (List.mem_cons_of_mem _ hx);refine⟨o',(ff rfl ?_).trans e⟩;have z:∀h,bR (F (k+m+2) .K1) [.str q.1] h=.ok (.bl true) h:=fun h'=>bh h' rfl (K1 (k+m) q.1 (h q List.mem_cons_self));simp only[EV,cX,z]
 obtain⟨o',e⟩:=lp l none hn;have av:=are (m+1) k (l.map (·.2)) (d - 1) fun x h=>by obtain⟨p,hp,rfl⟩:=List.mem_map.mp h;exact hx p hp
 have pv:(PV.lst (l.map (·.2))).pure=true:=by rw[PV.pure];exact nK (fun x h=>by obtain⟨p,hp,rfl⟩:=List.mem_map.mp h;exact hx p hp)
 have it:∀h,io (.dct (Ux l)) h=.ok (l.map fun p=>PV.str p.1) h:=fun h=>by show Res.ok ((Ux l).map fun p=>um p.1) h=_;unfold Ux;rw[List.map_map];rfl
 have vs:(Ux l).map (·.2)=l.map (·.2):=by unfold Ux;rw[List.map_map];rfl
 have lk:(Ux l).length=l.length:=by unfold Ux;rw[List.length_map]
 have c1:decide (d<1)=false:=decide_eq_false (by omega);have z1:∀h,bR (F (k+m+2) .j_) [.lst (l.map (·.2)),.int (d - 1)] h=.ok (.bl true) h:=fun h=>bh h (by simp only[ag,pv];rfl) av
 have rc:F (k+m+3) .q_ [.dct (Ux l),.int d]=.ok (.bl true):=by show aJ (ce (F (k+m+2))) 2 3 [.dct (Ux l),.int d]=_;have e1:decide ((l.length:Int)>8)=false:=decide_eq_false (by omega);simp only[EV,aJ,ce,VH,lk,e1,it,e,vs,z1,dJ]
 show aJ (aK (F (k+m+3))) 2 2 [.dct (Ux l),.int d]=_;have z:∀h,bR (F (k+m+3) .q_) [.dct (Ux l),.int d] h=.ok (.bl true) h:=fun h=>bh h (by simp only[ag,pd];rfl) rc;simp only[EV,aJ,aK,c1,z,dJ]
end
theorem nv1(k m:Nat)(x:List Nat)(v:PV)(hx:∀c∈x,c<1114112)(hv:Vd m 6 v):F (k+m+2) .z_ [.tup [.str x],.dct [(.inr x,v)]]=.ok .non:=by
 have iv:F (k+m+1) .is_value [v]=.ok (.bl true):=by show aJ (gy (F (k+m))) 1 1 [v]=_;have z:∀h,bR (F (k+m) .n_) [v,.int 6] h=.ok (.bl true) h:=fun h=>bh h (by simp only[ag,hv.1];rfl) (hv.2 k);simp only[EV,aJ,gy,aq _ hv.1,z,dJ]
 have z:∀h,bR (F (k+m+1) .is_value) [v] h=.ok (.bl true) h:=fun h=>bh h (by simp only[ag,hv.1];rfl) iv;have pd:(PV.dct [(.inr x,v)]).pure=true:=by rw[PV.pure,aE,hv.1];rfl
 have e:bj [(.inr x,v)] (.inr x)=some v:=by rw[dO,if_pos rfl]
 have ni:=Gd (x:=x) (ls:=[x]) hx (by intro l hl;cases List.mem_singleton.mp hl;exact hx);rw[decide_eq_true (List.mem_singleton.mpr rfl)]at ni;have ni:∀h,fJ (.str x) (.tup [.str x]) h=.ok (.bl false) h:=ni;have it:∀h,io (.dct [(.inr x,v)]) h=.ok [.str x] h:=fun h=>rfl;have it2:∀h,io (.tup [.str x]) h=.ok [.str x] h:=fun h=>rfl;show aJ (dL (F (k+m+1))) 2 3 [.tup [.str x],.dct [(.inr x,v)]]=_;simp only[EV,aJ,dL,iR,iQ,bD,aq _ pd,it,it2,e,aq _ hv.1,z,ni]
theorem mls(x:Int):jU 3 x=true∧jU 5 x=true∧jU 7 x=true∧jU 31 x=true∧jU 7919 x=true∧jU x 48271=true:=by refine⟨?_,?_,?_,?_,?_,rV (by decide)⟩<;>exact Ia (by decide)
local macro_rules | `(tactic| simp $c:optConfig only [EX,$xs,*])=>do let a←(("HE mls".splitOn.map fun n=>n.toName)).toArray.mapM fun n=>`(Lean.Parser.Tactic.simpLemma| $(Lean.mkIdent n):term);`(tactic| simp $c:optConfig only [EV,$a,*,$xs,*])
theorem jD:∀l:List (List Nat),ag (l.map PV.str)=true
 |[]=>rfl
 |a::r=>by rw[List.map_cons,ag,jD r];rfl
theorem wj{α:Type}{tt:Tx}{te:Ex}{cp:Ev}{h:List PO}(f:α→PV)(T:α→Bool)(g:α→PV):∀l:List α,(∀x∈l,tt (some (f x)::cp) h=.ok (T x) h)→(∀x∈l,te (some (f x)::cp) h=.ok (g x) h)→cx tt te cp (l.map f) h=.ok ((l.filter T).map g) h
 |[],_,_=>rfl
 |x::r,h1,h2=>by
  have ih:=wj f T g r (fun z hz=>h1 z (List.mem_cons_of_mem _ hz)) fun z hz=>h2 z (List.mem_cons_of_mem _ hz);rw[List.map_cons,cx,h1 x List.mem_cons_self];simp only[Res.Ov]
  cases e:T x with
  |true=>rw[if_pos rfl,h2 x List.mem_cons_self,List.filter_cons_of_pos e];simp only[Res.Ov,ih,List.map_cons]
  |false=>rw[if_neg (by decide),ih,List.filter_cons_of_neg (by rw[e];decide)]
theorem NO{h:List PO}{i:Nat}{acc:List PV}(e:h[i]? =some (.lst acc)):ao h (.ref i)=.ref i:=by show(match h[i]? with|some (.G7 q)=>q|_=>PV.ref i)=_;rw[e]
theorem HS{ls:List (List Nat)}(hl:∀l∈ls,∀c∈l,c<1114112)(h:List L3.PO):Ti (.lst (ls.map PV.str)) (.lst []) h=.ok (.bl (!ls.isEmpty)) h:=by
 have ok:L3.Oq h (.lst (ls.map PV.str))=true:=by unfold L3.Oq Tc;have:=lN hl;simp only[toD,PyData.canLay0,PyData.depth,this.1,Bool.true_and,decide_eq_true_eq];omega
 unfold Ti;rw[if_pos ⟨ok,rfl⟩]
 cases ls<;>rfl
def dup(l:List (List Nat)):Bool:=decide (oV l<l.length)
theorem nS(f:Nat→List Nat):∀(n:Nat)(x:List Nat),x∈cj f n↔∃i,i<n∧f i=x
 |0,x=>by simp[cj]
 |n+1,x=>by
  rw[cj,ui,nS f n x];constructor
  ·rintro(⟨i,h,e⟩|e)
   ·exact⟨i,by omega,e⟩
   ·exact⟨n,by omega,e.symm⟩
  ·rintro⟨i,h,e⟩
   rcases Nat.lt_or_ge i n with q|q
   ·exact .inl ⟨i,q,e⟩
   ·have:i=n:=by omega
    subst this;exact .inr e.symm
theorem rj(f:Nat→List Nat):∀n,(cj f n).length≤n
 |0=>Nat.le_refl _
 |n+1=>by
  have:=rj f n;rw[cj,mO]
  split
  ·omega
  ·rw[List.length_append,List.length_singleton];omega
theorem wU(f:Nat→List Nat):∀n,(cj f n).length=n↔∀i j,i<j→j<n→f i≠f j
 |0=>⟨fun _ i j _ h=>(by omega),fun _=>rfl⟩
 |n+1=>by
  have le:=rj f n;have ih:=wU f n;rw[cj,mO]
  split
  ·rename_i hm;obtain⟨i,hi,e⟩:=(nS f n _).mp hm;exact⟨fun z=>by omega,fun z=>(z i n hi (by omega) e).elim⟩
  ·rename_i hm;rw[List.length_append,List.length_singleton];constructor
   ·intro z i j YJ hj e;rcases Nat.lt_or_ge j n with q|q
    ·exact ih.mp (by omega) i j YJ q e
    ·have:j=n:=by omega
     subst this;exact hm ((nS f j _).mpr ⟨i,YJ,e⟩)
   ·intro z;have:=ih.mpr fun i j h g=>z i j h (by omega);omega
theorem Jj(l:List (List Nat)):dup l=false↔l.Nodup:=by
 have h:=wU (fun i=>l.getD i []) l.length;have le:=rj (fun i=>l.getD i []) l.length;unfold dup oV;rw[decide_eq_false_iff_not];constructor
 ·intro z;have:=h.mp (by omega);rw[List.Nodup,List.pairwise_iff_getElem];intro i j hi hj YJ;have:=this i j YJ hj;simpa[List.getD_eq_getElem?_getD,hi,hj]using this
 ·intro z
  have:∀i j,i<j→j<l.length→l.getD i []≠l.getD j []:=fun i j YJ hj=>by
   rw[List.Nodup,List.pairwise_iff_getElem]at z;have hi:i<l.length:=by omega
   have:=z i j hi hj YJ;simpa[List.getD_eq_getElem?_getD,hi,hj]using this
  have:=h.mpr this;omega
theorem sx{α:Type}{l:List α}{a b:Option Int}{x:α}(h:x∈cut l a b):x∈l:=by unfold cut at h;exact List.mem_of_mem_drop (List.mem_of_mem_take h)
theorem sy{α:Type}(l:List α)(a b:Option Int):(cut l a b).length≤l.length:=by unfold cut;rw[List.length_take,List.length_drop];omega
theorem xB{α β:Type}(f:α→β)(l:List α)(a b:Option Int):cut (l.map f) a b=(cut l a b).map f:=by unfold cut;rw[List.length_map,List.map_take,List.map_drop]
theorem GK{l:List (List Nat)}(h:∀x∈l,x.length≤1):(l.map (fun l=>l.length)).sum≤l.length:=by
 induction l with
 |nil=>exact Nat.le_refl _
 |cons a r ih=>have:=ih fun x hx=>h x (List.mem_cons_of_mem _ hx);have:=h a List.mem_cons_self;simp only[List.map_cons,List.sum_cons,List.length_cons];omega
def Z5(i:Int):Nat:=aS.getD (i % 26).toNat 0
theorem wu:aS.length=26:=by decide
theorem BY(i:Int):QW aS (i % 26)=some (Z5 i):=BZ 0 (Int.emod_nonneg _ (by decide)) (by rw[wu];exact Int.emod_lt_of_pos _ (by decide))
def w8(W:List (List Nat)):Prop:=W.length=8∧∀x∈W,x.length≤1
theorem qV{W V:List (List Nat)}(h:w8 W)(hm:∀x∈V,x∈W)(hl:V.length≤100)(hp:List PO):V.flatten.length≤100∧gK (.str []) [.lst (V.map PV.str)] hp=.ok (.str V.flatten) hp:=by have s:=GK fun x hx=>h.2 x (hm x hx);exact⟨by rw[List.length_flatten];exact Nat.le_trans s hl,DM (by omega)⟩
def wB(b:Nat):List Nat:=(List.range 8).map fun i=>aS.getD ((b+5 * i) % 26) 0
noncomputable def Wc(l:List Nat):List (List Nat):=l.map fun c=> [c]
theorem kH(l:List Nat):(Wc l).flatten=l:=by
 induction l with
 |nil=>rfl
 |cons a r ih=>unfold Wc at*;rw[List.map_cons,List.flatten_cons,ih];rfl
theorem nG(l:List Nat)(a b:Option Int):cut (Wc l) a b=Wc (cut l a b):=xB _ l a b
def Zu(w:List Nat):Bool:=decide (1≤w.length)&&decide (w.length≤8)&&w.all aS.contains
theorem Bl{w:List Nat}(h:Zu w=true):lO w:=by simp only[Zu,Bool.and_eq_true,decide_eq_true_eq,List.all_eq_true,List.contains_iff_mem]at h;exact⟨h.1.1,h.1.2,h.2⟩
theorem nl0:((List.range 26).all fun b=>(List.range 8).all fun e=>Zu (cut (wB b) none (some (1+(e:Int)))))=true:=by kernel_rfl
theorem nl2:((List.range 26).all fun b=>(List.range 12).all fun j=>Zu (cut (cut (wB b) (some ((j:Int) % 8)) none++cut (wB b) none (some ((j:Int) % 8))) none (some (8 - (j:Int) / 8))))=true:=by kernel_rfl
theorem kN{n:Nat}{f:Nat→Bool}(h:(List.range n).all f=true){i:Nat}(hi:i<n):f i=true:=List.all_eq_true.mp h i (List.mem_range.mpr hi)
theorem BR{α:Type}(l:List α)(b:Nat):cut l none (some (b:Int))=l.take b:=by
 unfold cut;rw[HT.Vs,HT.Wd,List.drop_zero,Nat.sub_zero];rcases Nat.le_total b l.length with q|q
 ·rw[Nat.min_eq_left q]
 ·rw[Nat.min_eq_right q,List.take_of_length_le (Nat.le_refl _),List.take_of_length_le q]
theorem Fs(i:Int):Z5 i∈aS:=by have h0:=Int.emod_nonneg i (by decide:(26:Int)≠0);have h1:=Int.emod_lt_of_pos i (by decide:(0:Int)<26);exact eK (by rw[wu];omega)
theorem Gu(b:Nat):∀c∈wB b,c∈aS:=fun c hc=>by obtain⟨i,_,rfl⟩:=List.mem_map.mp hc;exact eK (by rw[wu];omega)
noncomputable def bB(n j:Int):Nat:=((n / 192+3 * (j / 8) * (if decide (n % 3=0)=true then 1 else 0)) % 26).toNat
theorem LY(n j:Int):bB n j<26:=by unfold bB;omega
theorem JP(b:Nat):w8 (Wc (wB b)):=⟨by simp[Wc,wB],fun x hx=>by obtain⟨c,hc,rfl⟩:=List.mem_map.mp hx;exact Nat.le_refl _⟩
theorem yF(k:Nat)(n:Int)(ρ:Ev)(j:Int)(hc:ei [1,0,5] ρ=[some (.str aS),some (.int n),some (.int j)])(h:List PO):cx ft (jw (F k)) (ei [1,0,5] ρ) ((List.range (Int.toNat 8)).map fun i=>PV.int (0+(i:Nat))) h=.ok ((Wc (wB (bB n j))).map PV.str) h:=by
 unfold Wc wB;rw[hc,List.map_map,List.map_map];refine vM (fun i=>PV.int (0+(i:Nat))) _ (List.range 8) fun i _=>?_;have mi:∀x:Int,jU x (if decide (n % 3=0)=true then 1 else 0)=true:=fun x=>rV (by split<;>decide);have az:=BY (n / 192+5 * (0+(i:Int))+3 * (j / 8) * (if decide (n % 3=0)=true then 1 else 0))
 have ee:Z5 (n / 192+5 * (0+(i:Int))+3 * (j / 8) * (if decide (n % 3=0)=true then 1 else 0))=aS.getD ((bB n j+5 * i) % 26) 0:=by
  unfold Z5 bB;generalize 3 * (j / 8) * (if decide (n % 3=0)=true then 1 else 0)=z
  congr 1
  omega
 rw[ee]at az;have zl:aS.length≤16777216:=by decide
 simp only[EX,jw,mi,az,zl];rfl
theorem yG(k:Nat)(n sz ax:Int)(hs:1≤sz∧sz≤8)(ha:0≤ax∧ax<8)(j:Nat)(hj:j<12)(x6 x7:Option PV)(acc:List (List Nat))(la:acc.length<16777216)(rest:List PO):∃l Wf y6,lO l∧
  cW (F k) [some (.int n),some (.str aS),some (.int sz),some (.int ax),some (.ref 0),some (.int (0+(j:Nat))),x6,x7] (.lst (acc.map PV.str)::rest)=.nx [some (.int n),some (.str aS),some (.int sz),some (.int ax),some (.ref 0),some (.int (0+(j:Nat))),y6,x7] (.lst ((acc++ [l]).map PV.str)::Wf):=by
 have cm:=yF k n [some (.int n),some (.str aS),some (.int sz),some (.int ax),some (.ref 0),some (.int (0+(j:Nat))),x6,x7] (0+(j:Nat)) rfl;have hb:=LY n (0+(j:Nat));generalize bB n (0+(j:Nat))=b at cm hb;have hW:=JP b;obtain⟨W,eW⟩:∃W,Wc (wB b)=W:=⟨_,rfl⟩
 rw[eW]at cm hW;have b8:Ua 4611686018427387904 8=true:=rfl;have ln:((List.range (Int.toNat 8)).map fun i=>PV.int (0+(i:Nat))).length<16777216:=by decide
 have nl:∀(xs:List PV)(o:PO),Ed xs (o::rest)=.ok (.ref (rest.length+1)) (o::(rest++ [.lst xs])):=fun _ _=>rfl;have d0:∀(xs:List PV) r,ao (.lst xs::r) (.ref 0)=.ref 0:=fun xs r=>rfl;have dW:∀(xs ys:List PV),ao (.lst xs::(rest++ [.lst ys])) (.ref (rest.length+1))=.ref (rest.length+1):=fun xs ys=>NO (acc:=ys) (by simp)
 have sW:∀(xs:List PV)(V:List (List Nat)) lo hi,oY (.ref (rest.length+1)) lo hi (.lst xs::(rest++ [.lst (V.map PV.str)]))=.ok (.lst ((cut V lo hi).map PV.str)) (.lst xs::(rest++ [.lst (V.map PV.str)])):=fun xs V lo hi=>by
  show(match Wk (.lst xs::(rest++ [.lst (V.map PV.str)])) (.ref (rest.length+1))with|some ys=>Res.ok (PV.lst (cut ys lo hi)) _|none=>.bad)=_;have:Wk (.lst xs::(rest++ [.lst (V.map PV.str)])) (.ref (rest.length+1))=some (V.map PV.str):=by simp[Wk]
  rw[this,← xB]
 have ap:∀(l:List Nat) r,cT (.ref 0) [.str l] (.lst (acc.map PV.str)::r)=.ok .non (.lst (acc.map PV.str++ [.str l])::r):=fun l r=>by rw[NQ,if_pos (by rw[List.length_map];exact Nat.lt_of_lt_of_le la (by decide))]
 have cl:∀(V:List (List Nat)) lo hi,V.length=8→(cut V lo hi).length≤100:=fun V lo hi h=>by have:=sy V lo hi;omega
 have ic:=IU
 by_cases q0:n % 3=0
 ·have e0:decide (n % 3=0)=true:=decide_eq_true q0;obtain⟨_,j3⟩:=qV (V:=cut W none (some (1+(0+(j:Nat)) % 8))) hW (fun x hx=>sx hx) (cl _ _ _ hW.1) (.lst (acc.map PV.str)::(rest++ [.lst (W.map PV.str)]))
  have nw:lO (cut W none (some (1+(0+(j:Nat)) % 8))).flatten:=by rw[← eW,nG,kH];have:=Bl (kN (kN nl0 hb) (show j % 8<8 by omega));rw[show(1+(0+((j:Nat):Int)) % 8)=1+((j % 8:Nat):Int) by omega];exact this
  refine⟨_,rest++ [.lst (W.map PV.str)],some (.ref (rest.length+1)),nw,?_⟩;simp only[EX,cW,b8,ln,cm,nl,e0,d0,dW,sW,ic,j3,ap,List.map_append]
 ·have e0:decide (n % 3=0)=false:=decide_eq_false q0
  by_cases q1:n % 3=1
  ·have e1:decide (n % 3=1)=true:=decide_eq_true q1;have az:=BY (n / 192+7 * (0+(j:Nat))+1);have am:=Fs (n / 192+7 * (0+(j:Nat))+1);have zl:aS.length≤16777216:=by decide
   generalize Z5 (n / 192+7 * (0+(j:Nat))+1)=s at az am
   have hV:w8 (W.set ax.toNat [s]):=⟨by rw[List.length_set];exact hW.1,fun x hx=>by
    rcases List.mem_or_eq_of_mem_set hx with h|h
    ·exact hW.2 x h
    ·subst h;exact Nat.le_refl _⟩
   have si:∀ ρ,lQ (.str [s]) (.ref (rest.length+1)) (.int ax) ρ (.lst (acc.map PV.str)::(rest++ [.lst (W.map PV.str)]))=.nx ρ (.lst (acc.map PV.str)::(rest++ [.lst ((W.set ax.toNat [s]).map PV.str)])):=fun ρ=>by
    unfold lQ;have e2:qm (.lst (acc.map PV.str)::(rest++ [.lst (W.map PV.str)])) (.ref (rest.length+1))=some (rest.length+1,W.map PV.str):=by unfold qm;simp
    have e3:Wn (W.map PV.str).length ax=some ax.toNat:=by unfold Wn;rw[List.length_map,hW.1,if_pos ha.1,if_pos (by omega)]
    rw[e2];dsimp only;rw[e3];dsimp only;rw[List.set_cons_succ,List.set_append_right _ _ (Nat.le_refl _),Nat.sub_self,List.set_cons_zero,List.map_set]
   obtain⟨_,j3⟩:=qV (V:=cut (W.set ax.toNat [s]) none (some sz)) hV (fun x hx=>sx hx) (cl _ _ _ hV.1) (.lst (acc.map PV.str)::(rest++ [.lst ((W.set ax.toNat [s]).map PV.str)]))
   have nw:lO (cut (W.set ax.toNat [s]) none (some sz)).flatten:=by
    have es:W.set ax.toNat [s]=Wc ((wB b).set ax.toNat s):=by rw[← eW];unfold Wc;rw[List.map_set]
    rw[es,nG,kH,show sz=((sz.toNat:Nat):Int) by omega,BR];have l8:((wB b).set ax.toNat s).length=8:=by rw[List.length_set];simp[wB]
    refine⟨by rw[List.length_take,l8];omega,by rw[List.length_take,l8];omega,fun c hc=>?_⟩;rcases List.mem_or_eq_of_mem_set (List.mem_of_mem_take hc)with h|h
    ·exact Gu b c h
    ·subst h;exact am
   refine⟨_,rest++ [.lst ((W.set ax.toNat [s]).map PV.str)],some (.ref (rest.length+1)),nw,?_⟩;simp only[EX,cW,b8,ln,cm,nl,e0,e1,d0,dW,sW,ic,az,zl,si,j3,ap,List.map_append]
  ·have e1:decide (n % 3=1)=false:=decide_eq_false q1;have l1:=cl W (some ((0+(j:Nat)) % 8)) none hW.1;have l2:=cl W none (some ((0+(j:Nat)) % 8)) hW.1;have l1':=sy W (some ((0+(j:Nat)) % 8)) none;have l2':=sy W none (some ((0+(j:Nat)) % 8));have w8l:=hW.1;have aa:=Mb ((cut W (some ((0+(j:Nat)) % 8)) none).map PV.str) ((cut W none (some ((0+(j:Nat)) % 8))).map PV.str) (.lst (acc.map PV.str)::(rest++ [.lst (W.map PV.str)])) (by rw[List.length_map,List.length_map];omega);rw[← List.map_append]at aa
   obtain⟨j2,j3⟩:=qV (V:=cut W (some ((0+(j:Nat)) % 8)) none++cut W none (some ((0+(j:Nat)) % 8))) hW (fun x hx=>by rcases List.mem_append.mp hx with h|h<;>exact sx h) (by rw[List.length_append];omega) (.lst (acc.map PV.str)::(rest++ [.lst (W.map PV.str)]))
   have jl:(cut W (some ((0+(j:Nat)) % 8)) none++cut W none (some ((0+(j:Nat)) % 8))).flatten.length≤16777216:=by omega
   have nw:lO (cut (cut W (some ((0+(j:Nat)) % 8)) none++cut W none (some ((0+(j:Nat)) % 8))).flatten none (some (8 - (0+(j:Nat)) / 8))):=by rw[← eW,nG,nG,List.flatten_append,kH,kH];have:=Bl (kN (kN nl2 hb) hj);rw[Int.zero_add];exact this
   refine⟨_,rest++ [.lst (W.map PV.str)],some (.ref (rest.length+1)),nw,?_⟩;have ma:∀l,(acc++ [l]).map PV.str=acc.map PV.str++ [.str l]:=fun l=>by rw[List.map_append];rfl
   simp only[EX,cW,b8,ln,cm,nl,e0,e1,d0,dW,sW,ic,aa,j3,jl,ap,ma]
theorem qh(k:Nat)(n sz ax:Int)(hs:1≤sz∧sz≤8)(ha:0≤ax∧ax<8)(x7:Option PV):∀(js:List Nat)(x5 x6:Option PV)(acc:List (List Nat))(rest:List PO),(∀j∈js,j<12)→acc.length+js.length<16777216→(∀x∈acc,lO x)→∃(ls:List (List Nat))(y5 y6:Option PV)(Wf:List PO),ls.length=acc.length+js.length∧(∀x∈ls,lO x)∧
  bD (PL 5) (cW (F k)) (js.map fun j=>PV.int (0+(j:Nat))) [some (.int n),some (.str aS),some (.int sz),some (.int ax),some (.ref 0),x5,x6,x7] (.lst (acc.map PV.str)::rest)=.nx [some (.int n),some (.str aS),some (.int sz),some (.int ax),some (.ref 0),y5,y6,x7] (.lst (ls.map PV.str)::Wf)
 |[],x5,x6,acc,rest,_,_,hn=>⟨acc,x5,x6,rest,rfl,hn,by rw[List.map_nil,bD]⟩
 |j::r,x5,x6,acc,rest,hj,hl,hn=>by
  rw[List.length_cons]at hl;obtain⟨l,Zf,XQ,nl,e⟩:=yG k n sz ax hs ha j (hj j List.mem_cons_self) x6 x7 acc (by omega) rest
  obtain⟨ls,y5,y6,Ze,e1,e2,e3⟩:=qh k n sz ax hs ha x7 r (some (.int (0+(j:Nat)))) XQ (acc++ [l]) Zf (fun z hz=>hj z (List.mem_cons_of_mem _ hz)) (by rw[List.length_append,List.length_singleton];omega) (fun z hz=>by
   rcases List.mem_append.mp hz with q|q
   ·exact hn z q
   ·cases List.mem_singleton.mp q;exact nl)
  refine⟨ls,y5,y6,Ze,by rw[e1,List.length_append];simp only[List.length_cons,List.length_nil];omega,e2,?_⟩;rw[List.map_cons];exact Eq.trans (ff rfl e) e3
noncomputable def Ou(ms:List (List Nat)):PV:=.lst (ms.map PV.str)
theorem eg(h:List PO)(ms:List (List Nat)):ao h (Ou ms)=Ou ms:=rfl
noncomputable def Jv:List (List Nat):=[[97],[98],[97,98],[98,97],[105,116,101,109],[105,116,101,109,115],[99],[120],[120,121],[121],[114,111,119],[114,111,119,115]]
theorem yJ(k:Nat)(n:Int):∃ls:List (List Nat),ls.length=12∧ls.Nodup∧(∀x∈ls,WX x)∧F (k+1) .J6 [.int n]=.ok (Ou ls):=by
 have s0:=Int.emod_nonneg (n / 3) (by decide:(8:Int)≠0);have s1:=Int.emod_lt_of_pos (n / 3) (by decide:(0:Int)<8);have t0:=Int.emod_nonneg (n / 24) (by omega:1+n / 3 % 8≠0);have t1:=Int.emod_lt_of_pos (n / 24) (by omega:0<1+n / 3 % 8);obtain⟨ls,y5,y6,rest,e1,nwl,e3⟩:=qh k n (1+n / 3 % 8) (n / 24 % (1+n / 3 % 8)) (by omega) (by omega) none (List.range 12) none none [] [] (fun j hj=>List.mem_range.mp hj) (by simp) (fun x hx=>by cases hx);have Wm:ls.length=12:=by rw[e1];simp
 have p4:decide (0<1+n / 3 % 8)=true:=decide_eq_true (by omega);have b12:Ua 4611686018427387904 12=true:=rfl;have r12:(List.range (Int.toNat 12))=List.range 12:=rfl;have e3':bD (PL 5) (cW (F k)) ((List.range 12).map fun j=>PV.int (0+(j:Nat))) [some (.int n),some (.str aS),some (.int (1+n / 3 % 8)),some (.int (n / 24 % (1+n / 3 % 8))),some (.ref 0),none,none,none] [.lst []]=.nx [some (.int n),some (.str aS),some (.int (1+n / 3 % 8)),some (.int (n / 24 % (1+n / 3 % 8))),some (.ref 0),y5,y6,none] (.lst (ls.map PV.str)::rest):=e3;have d0:∀(xs:List PV) r,ao (.lst xs::r) (.ref 0)=.ref 0:=fun xs r=>rfl;have dz:∀(q:PV) r,ao (.G7 q::r) (.ref 0)=q:=fun xs r=>rfl;have sc:ls.length+1<scanBound:=by rw[Wm];decide
 have lz:dH (.ref 0) (.lst (ls.map PV.str)::rest)=.ok (.int (oV ls:Nat)) (.lst (ls.map PV.str)::rest):=by show(match dS (ls.map PV.str)with|some ls=>if ls.length+1<scanBound then Res.ok (PV.int (oV ls:Nat)) _ else .bad|none=>.bad)=_;rw[mx];dsimp only;rw[if_pos sc]
 have fd:∃b:Bool,(b=true→F (k+1) .J6 [.int n]=.ok (Ou Jv))∧(b=false→dup ls=false∧(∀x∈ls,x∉CW)∧F (k+1) .J6 [.int n]=.ok (Ou ls)):=by
  have r2:F (k+1) .J6 [.int n]=match eX (F k) [some (.int n),none,none,none,none,none,none,none] []with
   |.nx _ _=>.ok .non
   |.rt v h=>dJ v h
   |_=>.bad:=rfl
  by_cases c1:((oV ls:Nat):Int)<12
  ·have z1:decide (((oV ls:Nat):Int)<12)=true:=decide_eq_true c1;refine⟨true,fun _=>?_,fun h=>by cases h⟩;rw[r2];simp only[EX,eX,p4,b12,r12,e3',d0,lz,z1];rfl
  ·have z1:decide (((oV ls:Nat):Int)<12)=false:=decide_eq_false c1
   have sq:iS (.ref 0) (.lst (ls.map PV.str)::rest)=.ok (ls.map PV.str) (.G7 (.lst (ls.map PV.str))::rest):=by
    show(match eL (.lst (ls.map PV.str)::rest) (.ref 0)with|some (.lst xs,h2)=>Res.ok xs h2|_=>.bad)=_
    have:eL (.lst (ls.map PV.str)::rest) (.ref 0)=some (.lst (ls.map PV.str),.G7 (.lst (ls.map PV.str))::rest):=by unfold eL;simp only[List.getElem?_cons_zero,jD,if_true,List.set_cons_zero]
    rw[this]
   have ln:(ls.map PV.str).length<16777216:=by rw[List.length_map,Wm];decide
   have cm:∀ ρ h,ei [7] ρ=[some (.lst (CW.map PV.str))]→cx (jb (F k)) (jv (F k)) (ei [7] ρ) (ls.map PV.str) h=.ok ((ls.filter fun x=>decide (x∈CW)).map PV.str) h:=fun ρ h hc=>by
    rw[hc];refine wj PV.str (fun x=>decide (x∈CW)) PV.str ls (fun x hx=>?_) fun x hx=>?_
    ·have i1:=Nw (x:=x) (ls:=CW) (qq (nwl x hx)) Gn h;simp only[EX,jb,i1]
    ·simp only[EX,jv]
   have nn:∀h,Ti (.lst ((ls.filter fun x=>decide (x∈CW)).map PV.str)) (.lst []) h=.ok (.bl (!(ls.filter fun x=>decide (x∈CW)).isEmpty)) h:=fun h=>HS (fun x hx=>qq (nwl x (List.mem_filter.mp hx).1)) h;generalize ZM:(ls.filter fun x=>decide (x∈CW))=fl at cm nn;have cm':=cm [some (.int n),some (.str aS),some (.int (1+n / 3 % 8)),some (.int (n / 24 % (1+n / 3 % 8))),some (.ref 0),y5,y6,some (.lst (CW.map PV.str))] (.G7 (.lst (ls.map PV.str))::rest) rfl;simp only[show CW.map PV.str= [PV.str [97,115],.str [98,101,116,119,101,101,110],.str [98,111,100,121],.str [101,108,115,101],.str [101,110,100],.str [102,111,114],.str [105,102],.str [105,110],.str [112,105,101,99,101],.str [117,115,101],.str [119,105,116,104]]from rfl]at cm';refine⟨!fl.isEmpty,fun h=>?_,fun h=>?_⟩
   ·rw[r2];simp only[EX,eX,p4,b12,r12,e3',d0,lz,z1,sq,ln,cm',nn,h];rfl
   ·refine⟨by unfold dup;rw[Wm];exact decide_eq_false (by omega),fun x hx hc=>?_,?_⟩
    ·have:x∈fl:=by rw[← ZM];exact List.mem_filter.mpr ⟨hx,decide_eq_true hc⟩
     cases fl with
     |nil=>cases this
     |cons _ _=>cases h
    rw[r2];have fi:dJ (.lst (ls.map PV.str)) (.G7 (.lst (ls.map PV.str))::rest)=.ok (Ou ls):=dE _ (by rw[PV.pure];exact jD ls);simp only[EX,eX,p4,b12,r12,e3',d0,lz,z1,sq,ln,cm',nn,h,dz,fi]
 obtain⟨b,h1,h2⟩:=fd
 cases b with
 |true=>exact⟨Jv,rfl,by decide,fun x hx=>by
   have:(Jv.all fun x=>Zu x&&!CW.contains x)=true:=by kernel_rfl
   have:=List.all_eq_true.mp this x hx;rw[Bool.and_eq_true]at this;exact⟨Bl this.1,fun z=>by rw[← List.contains_iff_mem]at z;rw[z]at this;cases this.2⟩,h1 rfl⟩
 |false=>exact⟨ls,Wm,(Jj ls).mp (h2 rfl).1,fun x hx=>⟨nwl x hx,(h2 rfl).2.1 x hx⟩,(h2 rfl).2.2⟩
theorem Be(i n:Nat)(l2:List PV)(h2:ag l2=true):∀(l1:List PV),ag l1=true→Uh (l1++.ref i::l2)=[i]∧U4 n (l1++.ref i::l2)=l1++.ref n::l2∧lZ (l1++.ref i::l2)=true
 |[],_=>by
  have e:∀(l:List PV),ag l=true→Uh l= []∧(∀n,U4 n l=l)∧lZ l=true:=fun l hl=>by
   induction l with
   |nil=>exact⟨rfl,fun _=>rfl,rfl⟩
   |cons p r ih=>
    rw[ag,Bool.and_eq_true]at hl;obtain⟨a,b,c⟩:=ih hl.2;have np:∀i,p≠.ref i:=fun i e=>by have:=hl.1;subst e;simp[PV.pure]at this
    have e:lZ (p::r)=(p.pure&&lZ r):=by cases p<;>first|rfl|exact(np _ rfl).elim
    refine⟨?_,fun n=>?_,by rw[e,hl.1,c];rfl⟩
    ·cases p<;>first|exact a|exact(np _ rfl).elim
    ·cases p<;>first|exact congrArg _ (b n)|exact(np _ rfl).elim
  obtain⟨a,b,c⟩:=e l2 h2;refine⟨?_,?_,c⟩
  ·show i::Uh l2=_;rw[a]
  ·show PV.ref n::U4 (n+1) l2=_;rw[b];rfl
 |p::r,h=>by
  rw[ag,Bool.and_eq_true]at h;obtain⟨a,b,c⟩:=Be i n l2 h2 r h.2;have np:∀i,p≠.ref i:=fun i e=>by have:=h.1;subst e;simp[PV.pure]at this
  have e:lZ (p::(r++.ref i::l2))=(p.pure&&lZ (r++.ref i::l2)):=by cases p<;>first|rfl|exact(np _ rfl).elim
  rw[List.cons_append];refine⟨?_,?_,by rw[e,h.1,c];rfl⟩
  ·cases p<;>first|exact a|exact(np _ rfl).elim
  ·cases p<;>first|exact congrArg _ b|exact(np _ rfl).elim
theorem qM{fn:List PV→List PO→Res PV}(l1 l2:List PV){h:List PO}{i:Nat}{o o':PO}{v:PV}(h1:ag l1=true)(h2:ag l2=true)(ho:h[i]? =some o)(oo:o.pure=true)(e:fn (l1++.ref 0::l2) [o]=.ok v [o'])(hv:v.pure=true)(T6:o'.pure=true):
  lE fn (l1++.ref i::l2) h=.ok v (h.set i o'):=by
 obtain⟨q1,q2,q3⟩:=Be i 0 l2 h2 l1 h1;have e4:gp h [i]=some [o]:=by simp[gp,ho]
 unfold lE;rw[q1,e4];dsimp only;rw[q3,q2,e];have e5:(true&&eS [o]&&lY [i])=true:=by simp[eS,oo,lY]
 rw[if_pos e5];dsimp only;rw[if_pos ⟨hv,by simp[eS,T6],rfl⟩];rfl
noncomputable def cv(cs:List Int):PV:=.Q8 (cs.map PV.int)
theorem sw(cs:List Int):(cv cs).pure=true:=by
 unfold cv;rw[PV.pure]
 induction cs with
 |nil=>rfl
 |cons a r ih=>rw[List.map_cons,ag,ih];rfl
theorem gu(cs:List Int)(h:List PO):ao h (cv cs)=cv cs:=rfl
abbrev M5(n m:Int):PO:=.lst [.int n,.int m]
theorem kF(n m:Int):(M5 n m).pure=true:=rfl
theorem Fq(k:Nat)(cs:List Int)(hc:cs.length≤63)(n m:Int)(h0:0≤n)(h1:n≤2000000):∃v,0≤v∧v<400000000∧L (k+1) .G3 [cv cs,.ref 0] [M5 n m]=.ok (.int v) [M5 (n+1) m]:=by
 have ix0:∀i:Int,B_ (.ref 0) (.int 0) [M5 i m]=.ok (.int i) [M5 i m]:=fun m=>rfl;have d0:∀i:Int,ao [M5 i m] (.ref 0)=.ref 0:=fun m=>rfl;have st:∀ ρ,lQ (.int (n+1)) (.ref 0) (.int 0) ρ [M5 n m]=.nx ρ [M5 (n+1) m]:=fun ρ=>rfl;have ln:∀h,gk [.Q8 (cs.map PV.int)] h=.ok (.int cs.length) h:=fun h=>by rw[Gf,List.length_map]
 have m3:∀x:Int,jU x (n+1)=true:=fun x=>rV (fj.mpr ⟨by omega,by omega⟩);have fin:∀b:Int,0≤b * 48271 % 2147483647 / 7∧b * 48271 % 2147483647 / 7<400000000:=fun b=>by omega
 have ct:∀v:Int,BE 1 (.int v) [M5 (n+1) m]=.ok (.int v) [M5 (n+1) m]:=fun v=>rfl
 cases cs with
 |nil=>
  refine⟨_,(fin (31 * (n+1) * (n+1)+7919 * (n+1))).1,(fin _).2,?_⟩;show lS (gx (F k)) 2 4 [.Q8 [],.ref 0] [M5 n m]=_;have ln0:∀h,gk [.Q8 []] h=.ok (.int 0) h:=fun h=>rfl;have g0:decide ((0:Int)<0)=false:=by decide
  simp -implicitDefEqProofs only [EX,gu,lS,gx,ix0,d0,st,ln0,m3,ct,Int.reduceLT]
 |cons a r=>
  have hl0:(0:Int)<(((a::r).length:Nat):Int):=by rw[List.length_cons];omega
  have hl1:(((a::r).length:Nat):Int)<1073741824:=by omega
  have q0:0≤(n+1) % (((a::r).length:Nat):Int):=Int.emod_nonneg _ (by omega);have q1:(n+1) % (((a::r).length:Nat):Int)<(((a::r).length:Nat):Int):=Int.emod_lt_of_pos _ hl0
  have ax:QW ((a::r).map PV.int) ((n+1) % (((a::r).length:Nat):Int))=some (.int ((a::r).getD ((n+1) % (((a::r).length:Nat):Int)).toNat 0)):=by refine di q0 ?_;rw[List.getElem?_map,List.getD_eq_getElem?_getD,List.getElem?_eq_getElem (by omega)];rfl
  have dv0:0≤(n+1) / (((a::r).length:Nat):Int):=Int.ediv_nonneg (by omega) (by omega);have dv1:(n+1) / (((a::r).length:Nat):Int)≤n+1:=Int.ediv_le_self _ (by omega);have m5:∀x:Int,jU x (1+(n+1) / (((a::r).length:Nat):Int))=true:=fun x=>rV (fj.mpr ⟨by omega,by omega⟩);have p3:decide ((0:Int)<(((a::r).length:Nat):Int))=true:=decide_eq_true hl0;have p4:decide ((0:Int)<(((a::r).length:Nat):Int)∧(((a::r).length:Nat):Int)<1073741824)=true:=decide_eq_true ⟨hl0,hl1⟩;unfold cv;generalize hL:(((a::r).length:Nat):Int)=Ln at*;generalize hC:(a::r).map PV.int=cl at*;refine⟨_,(fin (31 * (n+1) * (n+1)+7919 * (n+1)+(a::r).getD ((n+1) % Ln).toNat 0 * (1+(n+1) / Ln))).1,(fin _).2,?_⟩;show lS (gx (F k)) 2 4 [.Q8 cl,.ref 0] [M5 n m]=_;simp -implicitDefEqProofs only [EX,gu,lS,gx,ix0,d0,st,ln,p3,ax,m3,m5,p4,ct]
theorem eV(k:Nat)(cs:List Int)(hc:cs.length≤63)(n m:Int)(h0:0≤n)(h1:n≤2000000)(r:List PO):∃v,0≤v∧v<400000000∧lE (L (k+1) .G3) [cv cs,.ref 0] (M5 n m::r)=.ok (.int v) (M5 (n+1) m::r):=by obtain⟨v,v0,v1,e⟩:=Fq k cs hc n m h0 h1;exact⟨v,v0,v1,qM (fn:=L (k+1) .G3) [cv cs] [] (by rw[ag,sw];rfl) rfl rfl (kF _ _) e rfl (kF _ _)⟩
theorem lx{α β:Type}{te:Ex}{cp:Ev}{m:Int}{tl:List PO}(f:α→PV)(g:β→PV)(R:β→Prop)(c:Int)(hc:0≤c)(hi:Int):∀(l:List α)(n:Int),0≤n→n+c * l.length≤hi→(∀x∈l,∀n,0≤n→n+c≤hi→∃y n',R y∧n≤n'∧n'≤n+c∧te (some (f x)::cp) (M5 n m::tl)=.ok (g y) (M5 n' m::tl))→
  ∃(ys:List β)(n':Int),ys.length=l.length∧(∀y∈ys,R y)∧n≤n'∧n'≤n+c * l.length∧cx ft te cp (l.map f) (M5 n m::tl)=.ok (ys.map g) (M5 n' m::tl)
 |[],n,_,_,_=>⟨[],n,rfl,by simp,Int.le_refl _,by simp,rfl⟩
 |x::r,n,h0,hn,hx=>by
  have e:c * ((x::r).length:Int)=c * (r.length:Int)+c:=by rw[List.length_cons,Int.natCast_add,Int.mul_add];simp
  have hr:0≤c * (r.length:Int):=Int.mul_nonneg hc (by omega);rw[e]at hn;obtain⟨y,n1,y1,y2,y3,y4⟩:=hx x List.mem_cons_self n h0 (by omega);obtain⟨ys,n2,z0,z1,z2,z3,z4⟩:=lx f g R c hc hi r n1 (by omega) (by omega) fun z hz=>hx z (List.mem_cons_of_mem _ hz);refine⟨y::ys,n2,by simp[z0],fun z hz=>?_,by omega,by rw[e];omega,?_⟩
  ·rcases List.mem_cons.mp hz with q|q
   ·subst q;exact y1
   ·exact z1 z q
  ·rw[List.map_cons,cx];simp only[ft,Res.Ov,if_true,y4,z4,List.map_cons]
theorem zd(k:Nat)(ns:List Int)(j:Nat):F (k+1) .A_ [cv ns,.int (j:Int)]=.ok (.int (ns.getD j 0)):=by
 have r2:F (k+1) .A_ [cv ns,.int (j:Int)]=match eC (F k) [some (cv ns),some (.int (j:Int))] []with
   |.nx _ _=>.ok .non
   |.rt v h=>dJ v h
   |_=>.bad:=rfl
 have ln:∀h,gk [cv ns] h=.ok (.int ns.length) h:=fun h=>by unfold cv;rw[Gf,List.length_map]
 rw[r2]
 by_cases c:j<ns.length
 ·have d1:decide ((j:Int)<(ns.length:Int))=true:=decide_eq_true (by omega)
  have ix:∀h,B_ (cv ns) (.int (j:Int)) h=.ok (.int (ns.getD j 0)) h:=fun h=>by unfold cv;rw[LC,di (v:=PV.int (ns.getD j 0)) (by omega) (by rw[Int.toNat_natCast,List.getElem?_map,List.getD_eq_getElem?_getD,List.getElem?_eq_getElem c];rfl)];rfl
  simp only[EX,eC,gu,ln,d1,ix];rfl
 ·have d1:decide ((j:Int)<(ns.length:Int))=false:=decide_eq_false (by omega);have e:ns.getD j 0=0:=by rw[List.getD_eq_getElem?_getD,List.getElem?_eq_none (by omega)];rfl
  simp only[EX,eC,gu,ln,d1,e];rfl
theorem jz(k:Nat)(ns:List Int)(i:Int)(hi:0≤i):∃v:Int,∀h,bR (F (k+1) .A_) [cv ns,.int i] h=.ok (.int v) h:=by have e:=zd k ns i.toNat;rw[Int.toNat_of_nonneg hi]at e;exact⟨_,fun h=>bh h (by simp[ag,sw,PV.pure]) e⟩
theorem eO{a b:Sx}{ρ:Ev}{h:List PO}{Q:SR→Prop}(ρ1:Ev)(h1:List PO)(e:a ρ h=.nx ρ1 h1)(k:Q (b ρ1 h1)):Q (aI a b ρ h):=by rw[EZ,e];exact k
theorem lw(x:Int){m:Int}(h:0<m):0≤x % m∧x % m<m:=⟨Int.emod_nonneg _ (by omega),Int.emod_lt_of_pos _ h⟩
theorem jm(m:List (List Nat)):(Ou m).pure=true:=by unfold Ou;rw[PV.pure];exact jD m
theorem rX{ls:List (List Nat)}{i:Int}(h0:0≤i)(h1:i<(ls.length:Int))(h:List PO):B_ (Ou ls) (.int i) h=.ok (.str (ls.getD i.toNat [])) h:=by
 have hi:i.toNat<ls.length:=by omega
 unfold Ou;rw[LB,di (v:=PV.str (ls.getD i.toNat [])) h0 (by rw[List.getElem?_map,List.getD_eq_getElem?_getD,List.getElem?_eq_getElem hi];rfl)];rfl
theorem BP(k:Nat)(cs:List Int)(hc:cs.length≤63)(ls:List (List Nat))(Wm:ls.length=12)(n m:Int)(h0:0≤n)(h1:n≤1000000):∃(ys:List (List Nat))(n':Int),ys.length=7∧(∀y∈ys,y∈ls)∧n≤n'∧n'≤n+7∧L (k+2) .K5 [cv cs,.ref 0,Ou ls] [M5 n m]=.ok (Ou ys) [M5 n' m]:=by
 obtain⟨v,ev⟩:=jz k cs 0 (by decide);obtain⟨m0,m1⟩:=lw v (by decide:(0:Int)<2)
 obtain⟨c,hc1,hc8,ec⟩:∃c:Nat,1≤c∧c≤8∧QW [PV.int 3,.int 8] (v % 2)=some (.int (c:Int)):=by
  rcases(show v % 2=0∨v % 2=1 by omega)with q|q<;>rw[q]
  ·exact⟨3,by decide,by decide,rfl⟩
  ·exact⟨8,by decide,by decide,rfl⟩
 have sl:∀h,oY (Ou ls) none (some (c:Int)) h=.ok (Ou (ls.take c)) h:=fun h=>by unfold Ou;show Res.ok (PV.lst (cut (ls.map PV.str) none (some (c:Int)))) h=_;rw[BR,List.map_take]
 have lt:(ls.take c).length=c:=by rw[List.length_take];omega
 have lp:∀h,gk [Ou (ls.take c)] h=.ok (.int (c:Int)) h:=fun h=>by unfold Ou;rw[Ge,List.length_map,lt]
 have p5:decide ((0:Int)<(c:Int))=true:=decide_eq_true (by omega)
 obtain⟨ys,n',g0,g1,g2,g3,g4⟩:=lx (te:=jx (F (k+1)) (L (k+1))) (cp:=[some (Ou (ls.take c)),some (cv cs),some (.ref 0)]) (m:=m) (tl:=[]) (fun i:Nat=>PV.int (0+(i:Nat))) PV.str (fun y=>y∈ls) 1 (by decide) 2000000 (List.range 7) n h0 (by rw[List.length_range];omega) fun i hi n h0 h1=>by obtain⟨w,w0,w1,ew⟩:=eV k cs hc n m h0 (by omega) [];obtain⟨q0,q1⟩:=lw (w / 5) (show(0:Int)<(c:Int) by omega);refine⟨_,n+1,List.mem_of_mem_take (eK (xs:=ls.take c) (n:=(w / 5 % (c:Int)).toNat) (d:=[]) (by omega)),by omega,by omega,?_⟩;have ix:=fun h=>rX (ls:=ls.take c) q0 (by omega) h;simp only[EX,jx,gu,eg,ew,lp,p5,ix]
 have l7:((List.range 7).map fun i=>PV.int (0+(i:Nat))).length<16777216:=by rw[List.length_map,List.length_range];decide
 have b7:Ua 4611686018427387904 7=true:=rfl;have r7:List.range (Int.toNat 7)=List.range 7:=rfl;have cp:∀ ρ:Ev,ei [3,0,1] [some (cv cs),some (.ref 0),some (Ou ls),some (Ou (ls.take c))]=[some (Ou (ls.take c)),some (cv cs),some (.ref 0)]:=fun ρ=>rfl;refine⟨ys,n',by rw[g0,List.length_range],g1,g2,by rw[List.length_range]at g3;omega,?_⟩
 have ct:BE 1 (Ou ys) [M5 n' m]=.ok (Ou ys) [M5 n' m]:=by unfold BE;rw[oG _ (jm ys)];unfold BS;simp[jm];rfl
 show lS (ia (F (k+1)) (L (k+1))) 3 4 [cv cs,.ref 0,Ou ls] [M5 n m]=_;have d0:∀i:Int,ao [M5 i m] (.ref 0)=.ref 0:=fun m=>rfl;simp only[EX,lS,ia,gu,eg,d0,ev,ec,sl,b7,r7,l7,cp [],g4];exact ct
theorem wO{h:List PO}(l:List (List Nat))(hl:∀x∈l,∀c∈x,c<1114112):L3.Oq h (.tup (l.map PV.str))=true:=by unfold L3.Oq Tc;have:=lN hl;simp only[toD,PyData.canLay0,PyData.depth,this.1,Bool.true_and,decide_eq_true_eq];omega
theorem Fe{p:PV}{h:List PO}(ok:L3.Oq h p=true):Pb p p h=.ok (.bl true) h:=by unfold Pb;rw[if_pos ⟨ok,ok⟩];unfold L3.Oq at ok;rw[PySem.SeqAt.eqv_refl _ ((Bool.and_eq_true _ _).mp ok).1]
theorem Ef{p:PV}{h:List PO}(ok:L3.Oq h p=true):Ti p p h=.ok (.bl false) h:=by unfold Ti;rw[if_pos ⟨ok,ok⟩];unfold L3.Oq at ok;rw[PySem.SeqAt.eqv_refl _ ((Bool.and_eq_true _ _).mp ok).1];rfl
theorem CL(i:Int):∀c∈gN i,c<1114112:=fun c hc=>by
 rw[wP]at hc
 split at hc
 ·have:=su _ c hc;omega
 ·rcases List.mem_cons.mp hc with rfl|q
  ·decide
  ·have:=su _ c q;omega
def c7(l:Ls):Prop:=∀x∈l,∀c∈x,c<1114112
theorem NX(t:Bool)(r:Rc)(hr:okR r)(i:Int):c7 (Qi t r i):=fun x hx=>by
 unfold Qi at hx;rcases List.mem_cons.mp hx with rfl|hx
 ·exact CL i
 ·cases t with
  |false=>cases hx
  |true=>
   simp only[if_true,List.mem_cons,List.not_mem_nil,or_false]at hx;rcases hx with rfl|rfl
   ·decide
   ·exact fun c hc=>Ch c (uT c (hr.2.2.2.2 c hc))
theorem NT(t:Bool)(r:Rc)(hr:okR r):c7 (Uq t r++Lq r):=fun x hx=>by
 rcases List.mem_append.mp hx with hx|hx
 ·unfold Uq at hx;rcases List.mem_cons.mp hx with rfl|hx
  ·decide
  ·rcases List.mem_append.mp hx with hx|hx
   ·rcases nW [44] (Ii t r) 0 x hx with rfl|⟨u,hu,hx⟩
    ·decide
    ·obtain⟨i,hi,rfl⟩:=List.mem_map.mp hu;exact NX t r hr i x hx
   ·simp only[List.mem_cons,List.not_mem_nil,or_false]at hx;rcases hx with rfl|rfl
    ·decide
    ·exact fun c hc=>Ch c (uT c (hr.2.2.2.2 c hc))
 ·unfold Lq at hx
  split at hx<;>(cases List.mem_singleton.mp hx;decide)
theorem NZ(A:Nm)(t:Bool)(rs:List Rc)(hr:∀r∈rs,okR r):c7 (rq [59] 0 (Is A t rs)):=fun x hx=>by
 rcases nW [59] (Is A t rs) 0 x hx with rfl|⟨u,hu,hx⟩
 ·decide
 ·obtain⟨r,hi,rfl⟩:=List.mem_map.mp hu;exact NT t r (hr r hi) x hx
theorem wJ(A:Nm)(t:Bool)(rs:List Rc)(hr:∀r∈rs,okR r)(h:List PO):L3.Oq h (lL (ro (Is A t rs)) (rq [59] 0 (Is A t rs)))=true:=by
 have fl:∀c∈(rq [59] 0 (Is A t rs)).flatten,c<1114112:=fun c hc=>by obtain⟨x,hx,hc⟩:=List.mem_flatten.mp hc;exact NZ A t rs hr x hx c hc
 rcases mY A t rs with o|o
 ·rw[o]
  exact wO [[119,114,105,116,116,101,110],(rq [59] 0 (Is A t rs)).flatten] (by
   intro x hx;simp only[List.mem_cons,List.not_mem_nil,or_false]at hx;rcases hx with rfl|rfl
   ·decide
   ·exact fl)
 ·rw[o]
  exact wO [[114,101,102,117,115,101,100],fw,(rq [59] 0 (Is A t rs)).flatten] (by
   intro x hx;simp only[List.mem_cons,List.not_mem_nil,or_false]at hx;rcases hx with rfl|rfl|rfl
   ·decide
   ·decide
   ·exact fl)
theorem JI:∀(a:List (List Int))(b:List (List Nat))(c:List Bool),b.length=a.length→c.length=a.length→∃rs:List Rc,rs.length=a.length∧rs.map (·.th)=a∧rs.map (·.tg)=b∧rs.map (·.tr)=c
 |[],[],[],_,_=>⟨[],rfl,rfl,rfl,rfl⟩
 |x::a,y::b,z::c,h1,h2=>by obtain⟨rs,l,e1,e2,e3⟩:=JI a b c (by simpa using h1) (by simpa using h2);exact⟨⟨x,y,z⟩::rs,by simp[l],by simp[e1],by simp[e2],by simp[e3]⟩
theorem JS(A:Nm)(rs:List Rc)(h4:rs.length≤4)(hr:∀r∈rs,okR r)(h0:WX A.Tg)(h1:WX A.ls)(h2:WX A.tg)(h3:WX A.fl):Vd 12 6 (vV A rs):=by
 refine zw (m:=8) (by decide) [(A.Tg,.lst (rs.map (rv A)))] (by simp) (fun p hp=>by cases List.mem_singleton.mp hp;exact h0) fun p hp=>?_
 cases List.mem_singleton.mp hp
 refine zy (m:=7) (by decide) _ (by rw[List.length_map];omega) fun x hx=>?_;obtain⟨r,hi,rfl⟩:=List.mem_map.mp hx;have g:=hr r hi;refine zw (m:=3) (by decide) [(A.ls,.lst (r.th.map PV.int)),(A.tg,.str r.tg),(A.fl,.bl r.tr)] (by simp) (fun p hp=>?_) fun p hp=>?_
 ·simp only[List.mem_cons,List.not_mem_nil,or_false]at hp;rcases hp with rfl|rfl|rfl
  ·exact h1
  ·exact h2
  ·exact h3
 ·simp only[List.mem_cons,List.not_mem_nil,or_false]at hp;rcases hp with rfl|rfl|rfl
  ·exact zy (m:=2) (by decide) _ (by rw[List.length_map];have:=g.1;omega) fun x hx=>by obtain⟨i,hi,rfl⟩:=List.mem_map.mp hx;have:=g.2.1 i hi;exact Gy (by decide) i (by omega) (by omega)
  ·exact FN (Gw (by decide) r.tg (by have:=g.2.2.2.1;omega) fun c hc=>uT c (g.2.2.2.2 c hc)) (by decide)
  ·exact FN (JQ (by decide) r.tr) (by decide)
theorem GF(i:Int)(h0:0≤i)(h1:i<1000):1≤(116::gN i).length∧(116::gN i).length≤40∧∀c∈116::gN i,c∈cD:=by
 have dl:(List.range 1000).all (fun n=>decide ((dig n).length≤3))=true:=by kernel_rfl
 have l3:=of_decide_eq_true (kN dl (show i.toNat<1000 by omega));rw[wP,if_pos h0];refine⟨by simp,by simp only[List.length_cons];omega,fun c hc=>?_⟩;rcases List.mem_cons.mp hc with rfl|q
 ·decide
 ·have f:∀c∈([48,49,50,51,52,53,54,55,56,57]:List Nat),c∈cD:=by decide
  obtain⟨a,b⟩:=su _ c q;refine f c ?_;have:c=48∨c=49∨c=50∨c=51∨c=52∨c=53∨c=54∨c=55∨c=56∨c=57:=by omega
  simpa using this
theorem vs{α:Type}{l:List α}{n:Nat}(h:l.length=n+1):∃a r,l=a::r∧r.length=n:=by
 cases l with
 |nil=>cases h
 |cons a r=>exact⟨a,r,rfl,by simpa using h⟩
theorem YC{α:Type}{l:List α}(h:l.length=0):l= []:=List.length_eq_zero_iff.mp h
theorem vs5{α:Type}{l0:List α}(h0:l0.length=5):∃a b c d e,l0= [a,b,c,d,e]:=by obtain⟨a,l1,e1,h1⟩:=vs h0;obtain⟨b,l2,e2,h2⟩:=vs h1;obtain⟨c,l3,e3,h3⟩:=vs h2;obtain⟨d,l4,e4,h4⟩:=vs h3;obtain⟨e,l5,e5,h5⟩:=vs h4;have e:=YC h5;subst e;subst e5;subst e4;subst e3;subst e2;subst e1;exact⟨a,b,c,d,e,rfl⟩
theorem vs7{α:Type}{l0:List α}(h0:l0.length=7):∃a b c d e f g,l0= [a,b,c,d,e,f,g]:=by obtain⟨a,l1,e1,h1⟩:=vs h0;obtain⟨b,l2,e2,h2⟩:=vs h1;obtain⟨c,l3,e3,h3⟩:=vs h2;obtain⟨d,l4,e4,h4⟩:=vs h3;obtain⟨e,l5,e5,h5⟩:=vs h4;obtain⟨f,l6,e6,h6⟩:=vs h5;obtain⟨g,l7,e7,h7⟩:=vs h6;have e:=YC h7;subst e;subst e7;subst e6;subst e5;subst e4;subst e3;subst e2;subst e1;exact⟨a,b,c,d,e,f,g,rfl⟩
theorem Mn{α:Type}{l0:List α}(h0:l0.length=12):∃a b c d e f g a' b' c' d' e',l0= [a,b,c,d,e,f,g,a',b',c',d',e']:=by obtain⟨a,l1,e1,h1⟩:=vs h0;obtain⟨b,l2,e2,h2⟩:=vs h1;obtain⟨c,l3,e3,h3⟩:=vs h2;obtain⟨d,l4,e4,h4⟩:=vs h3;obtain⟨e,l5,e5,h5⟩:=vs h4;obtain⟨f,l6,e6,h6⟩:=vs h5;obtain⟨g,l7,e7,h7⟩:=vs h6;obtain⟨a',l8,e8,h8⟩:=vs h7;obtain⟨b',l9,e9,h9⟩:=vs h8;obtain⟨c',l10,e10,h10⟩:=vs h9;obtain⟨d',l11,e11,h11⟩:=vs h10;obtain⟨e',Wm,e12,ZW⟩:=vs h11;have e:=YC ZW;subst e;subst e12;subst e11;subst e10;subst e9;subst e8;subst e7;subst e6;subst e5;subst e4;subst e3;subst e2;subst e1;exact⟨a,b,c,d,e,f,g,a',b',c',d',e',rfl⟩
def Xw(ys fs:Ls)(se:List Nat):Nm:=⟨ys.getD 0 [],ys.getD 1 [],ys.getD 2 [],ys.getD 3 [],ys.getD 4 [],ys.getD 5 [],ys.getD 6 [],se,fs.getD 0 [],fs.getD 1 [],fs.getD 2 [],fs.getD 3 [],fs.getD 4 []⟩
theorem Ba{l:List (List Nat)}(h:l.Nodup){i j:Nat}(hi:i<l.length)(hj:j<l.length)(e:i≠j):l.getD i []≠l.getD j []:=by
 rw[List.Nodup,List.pairwise_iff_getElem]at h;rw[List.getD_eq_getElem?_getD,List.getD_eq_getElem?_getD,List.getElem?_eq_getElem hi,List.getElem?_eq_getElem hj];rcases Nat.lt_or_ge i j with q|q
 ·exact h i j hi hj q
 ·exact(h j i hj hi (by omega)).symm
theorem BW(k:Nat)(ls ys fs:Ls)(Wm:ls.length=12)(y7:ys.length=7)(f5:fs.length=5)(hn:ls.Nodup)(ho:∀x∈ls,WX x)(hy:∀y∈ys,y∈ls)(w:Int)(hw:w=0∨w=1):∃se nu,F (k+1) .Om [Ou ls,Ou ys,Ou fs,.int w]=.ok (.tup [pq (T_ (Xw ys fs se) (ls.getD 3 [])),pq (Uu (Xw ys fs se) (ls.getD 3 []) (ls.getD 4 [])),pq (Ut (Xw ys fs se) (ls.getD 5 [])),pq (VB (Xw ys fs se) (!decide (ys.getD 2 []=ys.getD 1 [])) nu (ls.getD 5 []) (ls.getD 6 []))])∧ys.getD 3 []≠se∧(nu=ls.getD 3 []∨nu=ls.getD 4 []):=by
 have lt:∀x∈ls,∀c∈x,c<1114112:=fun x hx=>qq (ho x hx).1;have yl:∀i,i<7→∀c∈ys.getD i [],c<1114112:=fun i hi=>lt _ (hy _ (eK (by omega)))
 have cm:∀h,cx (ik (F k)) (iM (F k)) [some (.str (ys.getD 3 []))] (ls.map PV.str) h=.ok ((ls.filter fun x=>!decide (x=ys.getD 3 [])).map PV.str) h:=fun h=>by
  refine wj PV.str (fun x=>!decide (x=ys.getD 3 [])) PV.str ls (fun x hx=>?_) fun x hx=>?_
  ·have e:=rT x (ys.getD 3 []) h (lt x hx) (yl 3 (by omega));simp only[EX,ik,e]
  ·simp only[EX,iM]
 obtain⟨se,rest,ef,hs⟩:∃se rest,(ls.filter fun x=>!decide (x=ys.getD 3 []))=se::rest∧ys.getD 3 []≠se:=by
  cases q:ls.filter fun x=>!decide (x=ys.getD 3 [])with
  |nil=>rw[List.filter_eq_nil_iff]at q;have a0:=q (ls.getD 0 []) (eK (by omega));have a1:=q (ls.getD 1 []) (eK (by omega));simp only[Bool.not_eq_true',decide_eq_false_iff_not,Decidable.not_not]at a0 a1;exact(Ba hn (i:=0) (j:=1) (by omega) (by omega) (by decide) (a0.trans a1.symm)).elim
  |cons a r=>
   refine⟨a,r,rfl,fun z=>?_⟩;have:a∈ls.filter fun x=>!decide (x=ys.getD 3 []):=by rw[q];exact List.mem_cons_self
   have:=(List.mem_filter.mp this).2;rw[z]at this;simp at this
 rw[ef]at cm;have he:=fun h=>rT (ys.getD 2 []) (ys.getD 1 []) h (yl 2 (by omega)) (yl 1 (by omega));clear hn ho hy lt yl ef;obtain⟨n0,n1,n2,n3,n4,n5,n6,n7,n8,n9,Yd,Yc,rfl⟩:=Mn Wm;obtain⟨y0,y1,y2,y3,y4,y5,y6,rfl⟩:=vs7 y7;obtain⟨f0,f1,f2,f3,f4,rfl⟩:=vs5 f5;rcases hw with rfl|rfl
 ·exact⟨se,n3,xE k (Xw [y0,y1,y2,y3,y4,y5,y6] [f0,f1,f2,f3,f4] se) n0 n1 n2 n3 n4 n5 n6 n7 n8 n9 Yd Yc n3 0 _ rfl (rest.map PV.str) cm he,hs,Or.inl rfl⟩
 ·exact⟨se,n4,xE k (Xw [y0,y1,y2,y3,y4,y5,y6] [f0,f1,f2,f3,f4] se) n0 n1 n2 n3 n4 n5 n6 n7 n8 n9 Yd Yc n4 1 _ rfl (rest.map PV.str) cm he,hs,Or.inr rfl⟩
theorem ap1(o:PO)(xs:List PV)(r:List PO)(p:PV)(hl:xs.length≤1000):cT (.ref 1) [p] (o::.lst xs::r)=.ok .non (o::.lst (xs++ [p])::r):=by show(if xs.length<sizeLine then Res.ok PV.non (o::.lst (xs++ [p])::r)else .bad)=_;rw[if_pos (Nat.lt_of_le_of_lt hl (by decide))]
theorem ap2(o o':PO)(xs:List PV)(r:List PO)(p:PV)(hl:xs.length≤1000):cT (.ref 2) [p] (o::o'::.lst xs::r)=.ok .non (o::o'::.lst (xs++ [p])::r):=by show(if xs.length<sizeLine then Res.ok PV.non (o::o'::.lst (xs++ [p])::r)else .bad)=_;rw[if_pos (Nat.lt_of_le_of_lt hl (by decide))]
def okH(th:List Int):Prop:=th.length≤3∧∀i∈th, -1000≤i∧i≤1000
noncomputable def iv(th:List Int):PV:=.lst (th.map PV.int)
section
variable(k:Nat)(cs:List Int)(hc:cs.length≤63)(e2 e3 e4 e5 e6:Option PV)(tl:List (Option PV))
include hc
theorem sY(x:Option PV)(n:Int)(h0:0≤n)(h1:n≤1000000)(acc:List PV)(la:acc.length≤1000):∃th n',okH th∧n≤n'∧n'≤n+4∧mU (F (k+1)) (L (k+1)) (some (cv cs)::some (.ref 0)::e2::e3::e4::e5::e6::some (.ref 1)::x::tl) [M5 n 0,.lst acc]=.nx (some (cv cs)::some (.ref 0)::e2::e3::e4::e5::e6::some (.ref 1)::x::tl) [M5 n' 0,.lst (acc++ [iv th])]:=by
 obtain⟨w,w0,w1,ew⟩:=eV k cs hc n 0 h0 (by omega) [.lst acc];obtain⟨q0,q1⟩:=lw (w / 3) (by decide:(0:Int)<4);generalize hq:w / 3 % 4=c at q0 q1
 obtain⟨th,n',g0,g1,g2,g3,g4⟩:=lx (te:=sj (F (k+1)) (L (k+1))) (cp:=[some (cv cs),some (.ref 0)]) (m:=0) (tl:=[.lst acc]) (fun i:Nat=>PV.int (0+(i:Nat))) PV.int (fun y=> -1000≤y∧y≤1000) 1 (by decide) 2000000 (List.range c.toNat) (n+1) (by omega) (by rw[List.length_range];omega) fun i hi n h0 h1=>by obtain⟨v,v0,v1,ev⟩:=eV k cs hc n 0 h0 (by omega) [.lst acc];obtain⟨r0,r1⟩:=lw v (by decide:(0:Int)<2001);refine⟨v % 2001 - 1000,n+1,⟨by omega,by omega⟩,by omega,by omega,?_⟩;have d0:∀i:Int,ao [M5 i 0,.lst acc] (.ref 0)=.ref 0:=fun m=>rfl;simp only[EX,sj,gu,d0,ev]
 rw[List.length_range]at g0 g3;have lc:((List.range c.toNat).map fun i=>PV.int (0+(i:Nat))).length<16777216:=by rw[List.length_map,List.length_range];omega
 have bc:Ua 4611686018427387904 c=true:=fj.mpr ⟨by omega,by omega⟩;have d0:∀i:Int,ao [M5 i 0,.lst acc] (.ref 0)=.ref 0:=fun m=>rfl;have d1:∀i:Int,ao [M5 i 0,.lst acc] (.ref 1)=.ref 1:=fun m=>rfl;have il:∀i:Int,iT [M5 i 0,.lst acc] (.ref 1)=true:=fun m=>rfl;refine⟨th,n',⟨by omega,g1⟩,by omega,by omega,?_⟩;simp only[EX,mU,gu,d0,d1,il,ew,hq,bc,lc,ei,Option.getD_some,g4,ap1 _ _ _ _ la];rfl
theorem mw:∀(js:List Nat)(x:Option PV)(n:Int)(acc:List PV),0≤n→n+4 * js.length≤1000000→acc.length+js.length≤1000→∃(V5:List (List Int))(n':Int)(y:Option PV),V5.length=js.length∧(∀th∈V5,okH th)∧n≤n'∧n'≤n+4 * js.length∧
  bD (PL 8) (mU (F (k+1)) (L (k+1))) (js.map fun i=>PV.int (0+(i:Nat))) (some (cv cs)::some (.ref 0)::e2::e3::e4::e5::e6::some (.ref 1)::x::tl) [M5 n 0,.lst acc]=.nx (some (cv cs)::some (.ref 0)::e2::e3::e4::e5::e6::some (.ref 1)::y::tl) [M5 n' 0,.lst (acc++V5.map iv)]
 |[],x,n,acc,_,_,_=>⟨[],n,x,rfl,by simp,by omega,by simp,by rw[List.map_nil,List.map_nil,List.append_nil];rfl⟩
 |j::r,x,n,acc,h0,h1,ha=>by
  rw[List.length_cons]at h1 ha;obtain⟨th,n1,t1,t2,t3,t4⟩:=sY k cs hc e2 e3 e4 e5 e6 tl (some (.int (0+(j:Nat)))) n h0 (by omega) acc (by omega);obtain⟨V5,n2,y,u1,u2,u3,u4,u5⟩:=mw r (some (.int (0+(j:Nat)))) n1 (acc++ [iv th]) (by omega) (by omega) (by rw[List.length_append,List.length_singleton];omega);refine⟨th::V5,n2,y,by simp[u1],fun z hz=>?_,by omega,by rw[List.length_cons];omega,?_⟩
  ·rcases List.mem_cons.mp hz with rfl|q
   ·exact t1
   ·exact u2 z q
  ·rw[List.map_cons,List.map_cons,show acc++iv th::V5.map iv=acc++ [iv th]++V5.map iv by simp];exact(ff rfl t4).trans u5
theorem CG(M:Nat)(hM:M≤4)(n:Int)(h0:0≤n)(h1:n≤1000000)(o:PO)(gs:List (Option PV)):∃(ts:List (List Nat))(n':Int),ts.length=M∧(∀y∈ts,1≤y.length∧y.length≤40∧∀c∈y,c∈cD)∧n≤n'∧n'≤n+4∧cx ft (nF (F (k+1)) (L (k+1))) [some (cv cs),some (.ref 0)] ((List.range M).map fun i=>PV.int (0+(i:Nat))) [M5 n 0,o]=.ok (ts.map PV.str) [M5 n' 0,o]:=by
 obtain⟨ts,n',g0,g1,g2,g3,g4⟩:=lx (te:=nF (F (k+1)) (L (k+1))) (cp:=[some (cv cs),some (.ref 0)]) (m:=0) (tl:=[o]) (fun i:Nat=>PV.int (0+(i:Nat))) PV.str (fun y=>1≤y.length∧y.length≤40∧∀c∈y,c∈cD) 1 (by decide) 2000000 (List.range M) n h0 (by rw[List.length_range];omega) fun i hi n h0 h1=>by
  obtain⟨v,v0,v1,ev⟩:=eV k cs hc n 0 h0 (by omega) [o];obtain⟨r0,r1⟩:=lw v (by decide:(0:Int)<1000);have lg:=jI (v:=v % 1000) (by omega) (by omega);obtain⟨t1,t2,t3⟩:=GF (v % 1000) r0 r1;refine⟨116::gN (v % 1000),n+1,⟨t1,t2,t3⟩,by omega,by omega,?_⟩;have d0:∀i:Int,ao [M5 i 0,o] (.ref 0)=.ref 0:=fun m=>rfl;have a1:1+(gN (v % 1000)).length≤16777216:=by rw[List.length_cons]at t2;omega
  simp only[EX,nF,gu,d0,ev,lg,a1]
 rw[List.length_range]at g0 g3;exact⟨ts,n',g0,g1,g2,by omega,g4⟩
theorem xM(M:Nat)(hM:M≤4)(n:Int)(h0:0≤n)(h1:n≤1000000)(o:PO):∃(ts:List Bool)(n':Int),ts.length=M∧n≤n'∧n'≤n+4∧cx ft (nE (F (k+1)) (L (k+1))) [some (cv cs),some (.ref 0)] ((List.range M).map fun i=>PV.int (0+(i:Nat))) [M5 n 0,o]=.ok (ts.map PV.bl) [M5 n' 0,o]:=by
 obtain⟨ts,n',g0,g1,g2,g3,g4⟩:=lx (te:=nE (F (k+1)) (L (k+1))) (cp:=[some (cv cs),some (.ref 0)]) (m:=0) (tl:=[o]) (fun i:Nat=>PV.int (0+(i:Nat))) PV.bl (fun y=>True) 1 (by decide) 2000000 (List.range M) n h0 (by rw[List.length_range];omega) fun i hi n h0 h1=>by obtain⟨v,v0,v1,ev⟩:=eV k cs hc n 0 h0 (by omega) [o];refine⟨decide (v / 7 % 5>0),n+1,trivial,by omega,by omega,?_⟩;have d0:∀i:Int,ao [M5 i 0,o] (.ref 0)=.ref 0:=fun m=>rfl;simp only[EX,nE,gu,d0,ev,VH]
 rw[List.length_range]at g0 g3;exact⟨ts,n',g0,g2,by omega,g4⟩
end
theorem xx{fa fb:Ex}{ρ:Ev}{h h1 h2:List PO}{x:List Nat}{y:PV}(e1:fa ρ h=.ok (.str x) h1)(e2:fb ρ h1=.ok y h2):gM [(fa,fb)] ρ h=.ok (.dct [(.inr x,y)]) h2:=by unfold gM;simp only[gQ,e1,e2,Res.Ov];rfl
theorem MC{a b c:List Nat}(x y z:PV)(h1:a≠b)(h2:a≠c)(h3:b≠c):mkD [(.inr a,x),(.inr b,y),(.inr c,z)]=[(.inr a,x),(.inr b,y),(.inr c,z)]:=by simp[mkD,br,h1,h2,h3]
theorem LW{a1 b1 a2 b2 a3 b3:Ex}{ρ:Ev}{h:List PO}{x1 x2 x3:List Nat}{y1 y2 y3:PV}(e1:a1 ρ h=.ok (.str x1) h)(f1:b1 ρ h=.ok y1 h)(e2:a2 ρ h=.ok (.str x2) h)(f2:b2 ρ h=.ok y2 h)(e3:a3 ρ h=.ok (.str x3) h)(f3:b3 ρ h=.ok y3 h)(d1:x1≠x2)(d2:x1≠x3)(d3:x2≠x3):
  gM [(a1,b1),(a2,b2),(a3,b3)] ρ h=.ok (.dct [(.inr x1,y1),(.inr x2,y2),(.inr x3,y3)]) h:=by
 unfold gM;have k:∀x:List Nat,kZ (.str x)=some (.inr x):=fun x=>rfl;simp only[gQ,e1,e2,e3,f1,f2,f3,Res.Ov,k,MC _ _ _ d1 d2 d3]
def hR(n:Int)(rs:List Rc)(acc:List PV):List PO:=[M5 n 0,.lst (rs.map fun r=>iv r.th),.lst acc]
section
variable(k:Nat)(n:Int)(rs:List Rc)(A:Nm)(ys fs:Ls)(se:List Nat)(hA:A=Xw ys fs se)(f5:fs.length=5)(d1:A.ls≠A.tg)(d2:A.ls≠A.fl)(d3:A.tg≠A.fl)(e0 e1 e2 e3 e4 e6:Option PV)(tl:List (Option PV))
include hA f5 d1 d2 d3
theorem zV(j:Nat)(r:Rc)(hj:rs[j]? =some r)(acc:List PV)(la:acc.length≤1000):
  mS (F k) (e0::e1::e2::e3::e4::some (Ou fs)::e6::some (.ref 1)::some (.int (0+(j:Nat)))::some (dG rs)::some (dB rs)::some (.ref 2)::tl) (hR n rs acc)=.nx (e0::e1::e2::e3::e4::some (Ou fs)::e6::some (.ref 1)::some (.int (0+(j:Nat)))::some (dG rs)::some (dB rs)::some (.ref 2)::tl) (hR n rs (acc++ [rv A r])):=by
 have j0:(0:Int)≤0+(j:Nat):=by omega
 have jn:(0+((j:Nat):Int)).toNat=j:=by omega
 have hG:∀h,B_ (dG rs) (.int (0+(j:Nat))) h=.ok (.str r.tg) h:=fun h=>by unfold dG;rw[qr,di j0 (by rw[jn,List.getElem?_map,hj];rfl)];rfl
 have hB:∀h,B_ (dB rs) (.int (0+(j:Nat))) h=.ok (.bl r.tr) h:=fun h=>by unfold dB;rw[qr,di j0 (by rw[jn,List.getElem?_map,hj];rfl)];rfl
 have hT:B_ (.ref 1) (.int (0+(j:Nat))) (hR n rs acc)=.ok (iv r.th) (hR n rs acc):=by show(match QW (rs.map fun r=>iv r.th) (0+(j:Nat))with|some v=>Res.ok (ao (hR n rs acc) v) (hR n rs acc)|none=>.bad)=_;rw[di j0 (by rw[jn,List.getElem?_map,hj];rfl)];rfl
 have gG:∀h,ao h (dG rs)=dG rs:=fun h=>rfl;have gB:∀h,ao h (dB rs)=dB rs:=fun h=>rfl;have g1:ao (hR n rs acc) (.ref 1)=.ref 1:=rfl;have g2:ao (hR n rs acc) (.ref 2)=.ref 2:=rfl;have gi:∀h th,ao h (iv th)=iv th:=fun h th=>rfl;have il:iT (hR n rs acc) (.ref 2)=true:=rfl;have pl:∀h th,tZ [iv th] h=.ok (iv th) h:=fun h th=>rfl;have i1:=fun h=>rX (ls:=fs) (i:=1) (by decide) (by omega) h;have i2:=fun h=>rX (ls:=fs) (i:=2) (by decide) (by omega) h;have i3:=fun h=>rX (ls:=fs) (i:=3) (by decide) (by omega) h;have ap:∀p,cT (.ref 2) [p] (hR n rs acc)=.ok .non (hR n rs (acc++ [p])):=fun p=>ap2 _ _ _ _ _ la
 have dc:=LW (ρ:=e0::e1::e2::e3::e4::some (Ou fs)::e6::some (.ref 1)::some (.int (0+(j:Nat)))::some (dG rs)::some (dB rs)::some (.ref 2)::tl) (h:=hR n rs acc) (a1:=(c2 B_ (ae 5) aac)) (b1:=(cN tZ (ac (c2 B_ (ae 7) (ae 8)) ak))) (a2:=(c2 B_ (ae 5) aai)) (b2:=(c2 B_ (ae 9) (ae 8))) (a3:=(c2 B_ (ae 5) aah)) (b3:=(c2 B_ (ae 10) (ae 8))) (x1:=A.ls) (x2:=A.tg) (x3:=A.fl) (y1:=iv r.th) (y2:=.str r.tg) (y3:=.bl r.tr)
  (by simp only[EX,eg,i1];rw[hA];rfl) (by simp only[EX,g1,hT,gi,pl]) (by simp only[EX,eg,i2];rw[hA];rfl) (by simp only[EX,gG,hG]) (by simp only[EX,eg,i3];rw[hA];rfl) (by simp only[EX,gB,hB]) d1 d2 d3
 simp only[EX,mS,g2,il,dc,ap];rfl
theorem tG:∀(rest:List Rc)(j:Nat)(x:Option PV)(acc:List PV),(∀i r,rest[i]? =some r→rs[j+i]? =some r)→acc.length+rest.length≤1000→∃y,
  bD (PL 8) (mS (F k)) ((List.range' j rest.length).map fun i=>PV.int (0+(i:Nat))) (e0::e1::e2::e3::e4::some (Ou fs)::e6::some (.ref 1)::x::some (dG rs)::some (dB rs)::some (.ref 2)::tl) (hR n rs acc)=.nx (e0::e1::e2::e3::e4::some (Ou fs)::e6::some (.ref 1)::y::some (dG rs)::some (dB rs)::some (.ref 2)::tl) (hR n rs (acc++rest.map (rv A)))
 |[],j,x,acc,_,_=>⟨x,by rw[List.map_nil,List.append_nil];rfl⟩
 |r::l,j,x,acc,hs,hl=>by rw[List.length_cons]at hl;have st:=zV k n rs A ys fs se hA f5 d1 d2 d3 e0 e1 e2 e3 e4 e6 tl j r (by have:=hs 0 r rfl;rwa [Nat.add_zero]at this) acc (by omega);obtain⟨y,lp⟩:=tG l (j+1) (some (.int (0+(j:Nat)))) (acc++ [rv A r]) (fun i r hi=>by have:=hs (i+1) r hi;rw[show j+1+i=j+(i+1) by omega];exact this) (by rw[List.length_append,List.length_singleton];omega);refine⟨y,?_⟩;rw[List.length_cons,List.range'_succ,List.map_cons,List.map_cons,show acc++rv A r::l.map (rv A)=acc++ [rv A r]++l.map (rv A) by simp];exact(ff rfl st).trans lp
end
theorem rY:∀rs:List Rc,ag (rs.map fun r=>iv r.th)=true
 |[]=>rfl
 |r::l=>by rw[List.map_cons,ag,rY l];unfold iv;rw[PV.pure,jL];rfl
theorem xz(rs:List Rc):(dG rs).pure=true:=by
 unfold dG;rw[PV.pure]
 induction rs with
 |nil=>rfl
 |cons r l ih=>rw[List.map_cons,ag,ih];rfl
theorem xA(rs:List Rc):(dB rs).pure=true:=by
 unfold dB;rw[PV.pure]
 induction rs with
 |nil=>rfl
 |cons r l ih=>rw[List.map_cons,ag,ih];rfl
theorem Fl(rs:List Rc):(dT rs).pure=true:=by unfold dT;rw[PV.pure];exact rY rs
theorem Aw(A:Nm)(t:Bool)(n3 n4 n5 n6 nu:List Nat):(PV.tup [pq (T_ A n3),pq (Uu A n3 n4),pq (Ut A n5),pq (VB A t nu n5 n6)]).pure=true:=by
 have q3:ag (VB A t nu n5 n6).2=true:=by cases t<;>rfl
 rw[PV.pure,ag,ag,ag,ag,cS (p:=T_ A n3) rfl,cS (p:=Uu A n3 n4) rfl,cS (p:=Ut A n5) rfl,cS q3];rfl
theorem Bh:∀ns:List Int,ns.length≤63→F 70 .law [.Q8 (ns.map PV.int)]=.ok (.bl true):=fun cs hc=>by
 suffices S:∃h,qT (F 69) (L 69) [some (cv cs),none,none,none,none,none,none,none,none,none,none,none,none,none,none,none] []=.rt (.bl true) h by
  obtain⟨h,e⟩:=S
  have r2:F 70 .law [.Q8 (cs.map PV.int)]=match qT (F 69) (L 69) [some (cv cs),none,none,none,none,none,none,none,none,none,none,none,none,none,none,none] []with
   |.nx _ _=>.ok .non
   |.rt v h=>dJ v h
   |_=>.bad:=rfl
  rw[r2,e];exact dE _ rfl
 obtain⟨v0,v00,v01,ev0⟩:=eV 68 cs hc 0 0 (by decide) (by decide) [];have ev0:lE (L 69 .G3) [cv cs,.ref 0] [M5 0 0]=.ok (.int v0) [M5 1 0]:=ev0;obtain⟨ls,Wm,hn,ho,en⟩:=yJ 68 v0;have cn:∀h,bR (F 69 .J6) [.int v0] h=.ok (Ou ls) h:=fun h=>bh h rfl en;obtain⟨ys,n1,y7,hy,Yd,Yc,ed⟩:=BP 67 cs hc ls Wm 1 0 (by decide) (by decide);have cd:lE (L 69 .K5) [cv cs,.ref 0,Ou ls] [M5 1 0]=.ok (Ou ys) [M5 n1 0]:=qM (fn:=L 69 .K5) [cv cs] [Ou ls] (h:=[M5 1 0]) (i:=0) (by rw[ag,sw];rfl) (by rw[ag,jm];rfl) rfl (kF _ _) ed (jm ys) (kF _ _);obtain⟨u0,e0⟩:=jz 68 cs 0 (by decide);obtain⟨u1,e1⟩:=jz 68 cs 1 (by decide)
 obtain⟨a,ha,ea⟩:∃a:Nat,a≤7∧QW [PV.int 7,.int 0] (u0 / 2 % 2)=some (.int (a:Int)):=by
  rcases(show u0 / 2 % 2=0∨u0 / 2 % 2=1 by omega)with q|q<;>rw[q]
  ·exact⟨7,by decide,rfl⟩
  ·exact⟨0,by decide,rfl⟩
 obtain⟨fs,hfs⟩:∃fs,fs=(List.range 5).map fun i=>ls.getD (a+i) []:=⟨_,rfl⟩
 have f5:fs.length=5:=by rw[hfs,List.length_map,List.length_range]
 have fg:∀i,i<5→fs.getD i []=ls.getD (a+i) []:=fun i hi=>by rw[hfs,List.getD_eq_getElem?_getD,List.getElem?_map,List.getElem?_range hi];rfl
 have fn:∀i j,i<5→j<5→i≠j→fs.getD i []≠fs.getD j []:=fun i j hi hj e=>by rw[fg i hi,fg j hj];exact Ba hn (by omega) (by omega) (by omega)
 have fo:∀i,i<5→WX (fs.getD i []):=fun i hi=>by rw[fg i hi];exact ho _ (eK (by omega))
 have cf:∀h,cx ft (sk (F 69)) [some (Ou ls),some (.int (a:Int))] ((List.range 5).map fun i=>PV.int (0+(i:Nat))) h=.ok (fs.map PV.str) h:=fun h=>by rw[hfs,List.map_map];refine vM (fun i=>PV.int (0+(i:Nat))) _ (List.range 5) fun i hi=>?_;have hi:=List.mem_range.mp hi;have ix:=rX (ls:=ls) (i:=(a:Int)+(0+(i:Nat))) (by omega) (by omega) h;rw[show((a:Int)+(0+(i:Nat))).toNat=a+i by omega]at ix;simp only[EX,sk,eg,ix];rfl
 obtain⟨v1,v10,v11,ev1⟩:=eV 68 cs hc n1 0 (by omega) (by omega) [];obtain⟨M,hM,eM⟩:∃M:Nat,M≤4∧v1 / 3 % 5=(M:Int):=⟨(v1 / 3 % 5).toNat,by omega,by omega⟩
 obtain⟨w,hw,ew⟩:∃w:Int,(w=0∨w=1)∧u1 % 2=w:=⟨u1 % 2,by omega,rfl⟩
 obtain⟨se,nu,eb,hs,hu⟩:=BW 68 ls ys fs Wm y7 f5 hn ho hy w hw;obtain⟨A,hA⟩:∃A,A=Xw ys fs se:=⟨_,rfl⟩
 obtain⟨t,ht⟩:∃t,t=!decide (ys.getD 2 []=ys.getD 1 []):=⟨_,rfl⟩
 rw[← hA,← ht]at eb
 have Xb:X7 A t:=by
  rw[hA];refine⟨fn 1 2 (by decide) (by decide) (by decide),fn 1 3 (by decide) (by decide) (by decide),fn 2 3 (by decide) (by decide) (by decide),fn 4 1 (by decide) (by decide) (by decide),fn 4 2 (by decide) (by decide) (by decide),fn 4 3 (by decide) (by decide) (by decide),hs,fun h=>?_⟩;rw[ht]at h;intro z;rw[decide_eq_true (p:=ys.getD 2 []=ys.getD 1 []) z]at h
  cases h
 obtain⟨V5,n3,y8,th1,th2,n30,n31,eth⟩:=mw 68 cs hc (some (Ou ls)) (some (Ou ys)) (some (.int (a:Int))) (some (Ou fs)) (some (.int (M:Int))) [none,none,none,none,none,none,none] (List.range M) none (n1+1) [] (by omega) (by rw[List.length_range];omega) (by rw[List.length_range,List.length_nil];omega);rw[List.length_range]at th1 n31;obtain⟨tgs,n4,tg1,tg2,n40,n41,etg⟩:=CG 68 cs hc M hM n3 (by omega) (by omega) (.lst (V5.map iv)) [];obtain⟨V4,n5,tr1,n50,n51,etr⟩:=xM 68 cs hc M hM n4 (by omega) (by omega) (.lst (V5.map iv));obtain⟨rs,rl,rs1,rs2,rs3⟩:=JI V5 tgs V4 (by omega) (by omega)
 have hr:∀r∈rs,okR r:=fun r h=>by have a1:=th2 r.th (by rw[← rs1];exact List.mem_map.mpr ⟨r,h,rfl⟩);have a2:=tg2 r.tg (by rw[← rs2];exact List.mem_map.mpr ⟨r,h,rfl⟩);exact⟨a1.1,a1.2,a2.1,a2.2.1,a2.2.2⟩
 have rM:rs.length=M:=by omega
 have mT:V5.map iv=rs.map fun r=>iv r.th:=by rw[← rs1,List.map_map];rfl
 have mG:PV.lst (tgs.map PV.str)=dG rs:=by rw[← rs2,List.map_map];rfl
 have mB:PV.lst (V4.map PV.bl)=dB rs:=by rw[← rs3,List.map_map];rfl
 rw[List.nil_append,mT]at eth;rw[mT]at etg etr;obtain⟨z8,erc⟩:=tG 69 n5 rs A ys fs se hA f5 Xb.h1 Xb.h2 Xb.h3 (some (cv cs)) (some (.ref 0)) (some (Ou ls)) (some (Ou ys)) (some (.int (a:Int))) (some (.int (M:Int))) [none,none,none,none] rs 0 y8 [] (fun i r h=>by rw[Nat.zero_add];exact h) (by rw[List.length_nil];omega);rw[List.nil_append,rM]at erc;simp only[Nat.reduceAdd]at e0 e1 ev1 eb eth etg etr
 let Q:SR→Prop:=fun R=>∃h,R=.rt (.bl true) h;show Q _;unfold qT;have mk:∀x y,ji [.int x,.int y] []=.ok (.ref 0) [M5 x y]:=fun _ _=>rfl;have mk1:∀o,ji [] [o]=.ok (.ref 1) [o,.lst []]:=fun _=>rfl;have mk2:∀o o',ji [] [o,o']=.ok (.ref 2) [o,o',.lst []]:=fun _ _=>rfl;have d0:∀(n:Int) r,ao (M5 n 0::r) (.ref 0)=.ref 0:=fun _ _=>rfl;have bM:Ua 4611686018427387904 (M:Int)=true:=fj.mpr ⟨by omega,by omega⟩;have lM:((List.range M).map fun i=>PV.int (0+(i:Nat))).length<16777216:=by rw[List.length_map,List.length_range];omega
 have l5:((List.range 5).map fun i=>PV.int (0+(i:Nat))).length<16777216:=by rw[List.length_map,List.length_range];decide
 have b5:Ua 4611686018427387904 5=true:=rfl;have r5:List.range (Int.toNat 5)=List.range 5:=rfl;have hmn:PV.lst (fs.map PV.str)=Ou fs:=rfl;have tM:Int.toNat (M:Int)=M:=Int.toNat_natCast M;refine eO _ [M5 0 0] (by simp only[EX,mk];rfl) ?_;refine eO _ [M5 1 0] (by simp only[EX,gu,d0,ev0,cn];rfl) ?_;refine eO _ [M5 n1 0] (by simp only[EX,gu,eg,d0,cd];rfl) ?_;refine eO _ [M5 n1 0] (by simp only[EX,gu,eg,d0,e0,ea];rfl) ?_;refine eO _ [M5 n1 0] (by simp only[EX,b5,r5,l5,ei,Option.getD_some,cf,hmn];rfl) ?_;refine eO _ [M5 (n1+1) 0] (by simp only[EX,gu,d0,ev1,eM];rfl) ?_;refine eO _ [M5 (n1+1) 0,.lst []] (by simp only[EX,mk1];rfl) ?_;refine eO _ [M5 n3 0,.lst (rs.map fun r=>iv r.th)] (by simp only[EX,bM,tM,eth];rfl) ?_;refine eO _ [M5 n4 0,.lst (rs.map fun r=>iv r.th)] (by simp only[EX,bM,tM,lM,ei,Option.getD_some,etg,mG];rfl) ?_;refine eO _ [M5 n5 0,.lst (rs.map fun r=>iv r.th)] (by simp only[EX,bM,tM,lM,ei,Option.getD_some,etr,mB];rfl) ?_;refine eO _ (hR n5 rs []) (by simp only[EX,mk2];rfl) ?_;rw[← List.range_eq_range']at erc;refine eO _ (hR n5 rs (rs.map (rv A))) (by simp only[EX,bM,tM,erc];rfl) ?_;obtain⟨bk,hbk⟩:∃bk,bk=PV.tup [pq (T_ A (ls.getD 3 [])),pq (Uu A (ls.getD 3 []) (ls.getD 4 [])),pq (Ut A (ls.getD 5 [])),pq (VB A t nu (ls.getD 5 []) (ls.getD 6 []))]:=⟨_,rfl⟩
 have pbk:bk.pure=true:=by rw[hbk];exact Aw _ _ _ _ _ _ _
 rw[← hbk]at eb;have cb:∀h,bR (F 69 .Om) [Ou ls,Ou ys,Ou fs,.int w] h=.ok bk h:=fun h=>bh h (by simp only[ag,jm];rfl) eb;refine eO _ (hR n5 rs (rs.map (rv A))) (by simp only[EX,gu,eg,e1,ew,cb];rfl) ?_;have i0:=fun h=>rX (ls:=ys) (i:=0) (by decide) (by omega) h;have i1:=fun h=>rX (ls:=ys) (i:=1) (by decide) (by omega) h;have i2:=fun h=>rX (ls:=ys) (i:=2) (by decide) (by omega) h;have j0:=fun h=>rX (ls:=fs) (i:=0) (by decide) (by omega) h;have n0:ys.getD (Int.toNat 0) []=A.mn:=by rw[hA];rfl
 have m0:fs.getD (Int.toNat 0) []=A.Tg:=by rw[hA];rfl
 rw[n0]at i0;rw[m0]at j0
 have fz:Ys (.ref 2) (hR n5 rs (rs.map (rv A)))=.ok (.lst (rs.map (rv A))) [M5 n5 0,.lst (rs.map fun r=>iv r.th),.G7 (.lst (rs.map (rv A)))]:=by unfold Ys fzP;show(match(if ag (rs.map (rv A))=true then some (PV.lst (rs.map (rv A)),[M5 n5 0,PO.lst (rs.map fun r=>iv r.th),.G7 (.lst (rs.map (rv A)))])else none)with|some (q,h2)=>Res.ok q h2|none=>.bad)=_;rw[kK];rfl
 have g2:ao (hR n5 rs (rs.map (rv A))) (.ref 2)=.ref 2:=rfl;have dv:=xx (ρ:=[some (cv cs),some (.ref 0),some (Ou ls),some (Ou ys),some (.int (a:Int)),some (Ou fs),some (.int (M:Int)),some (.ref 1),z8,some (dG rs),some (dB rs),some (.ref 2),some bk,none,none,none]) (h:=hR n5 rs (rs.map (rv A))) (fa:=c2 B_ (ae 3) aad) (fb:=gM [((c2 B_ (ae 5) aad),(XF (ae 11)))]) (h1:=hR n5 rs (rs.map (rv A))) (h2:=[M5 n5 0,.lst (rs.map fun r=>iv r.th),.G7 (.lst (rs.map (rv A)))]) (x:=A.mn) (y:=vV A rs) (by simp only[EX,eg,i0]) (xx (h1:=hR n5 rs (rs.map (rv A))) (by simp only[EX,eg,j0]) (by simp only[EX,g2,fz]));refine eO _ [M5 n5 0,.lst (rs.map fun r=>iv r.th),.G7 (.lst (rs.map (rv A)))] (by simp only[EX,dv];rfl) ?_;have Yx:∀qs:List Rc,qs.length≤4→(∀r∈qs,okR r)→F 69 .O9 [dT qs,dG qs,dB qs,.bl t]=.ok (lL (ro (Is A t qs)) (rq [59] 0 (Is A t qs))):=fun qs h4 hq=>Jk A t qs 68 h4 hq
 have cwr:∀qs:List Rc,qs.length≤4→(∀r∈qs,okR r)→∀h,bR (F 69 .written) [bk,.dct [(.inr A.mn,vV A qs)]] h=.ok (lL (ro (Is A t qs)) (rq [59] 0 (Is A t qs))) h:=fun qs h4 hq h=>by
  have pv:(PV.dct [(.inr A.mn,vV A qs)]).pure=true:=by rw[PV.pure,aE,jC];rfl
  refine bh h (by rw[ag,ag,pbk,pv];rfl) ?_;rw[hbk];have nn:∀i j,i<12→j<12→i≠j→ls.getD i []≠ls.getD j []:=fun i j hi hj e=>Ba hn (by omega) (by omega) e;have vo:=JS A qs h4 hq (by rw[hA];exact fo 0 (by decide)) (by rw[hA];exact fo 1 (by decide)) (by rw[hA];exact fo 2 (by decide)) (by rw[hA];exact fo 3 (by decide));have lm:∀c∈A.mn,c<1114112:=by rw[hA];exact qq (ho _ (hy _ (eK (by omega)))).1
  exact sP 46 Xb qs h4 hq _ _ _ _ nu hu (nn 3 4 (by decide) (by decide) (by decide)) (nn 3 5 (by decide) (by decide) (by decide)) (nn 3 6 (by decide) (by decide) (by decide)) (nn 4 5 (by decide) (by decide) (by decide)) (nn 4 6 (by decide) (by decide) (by decide)) (nn 5 6 (by decide) (by decide) (by decide)) (nv1 54 12 A.mn (vV A qs) lm vo)
 have tne:∀qs:List Rc,(∀r∈qs,okR r)→∀h,Ti (lL (ro (Is A t qs)) (rq [59] 0 (Is A t qs))) (lL (ro (Is A t qs)) (rq [59] 0 (Is A t qs))) h=.ok (.bl false) h:=fun qs hq h=>Ef (wJ A t qs hq h);have teq:∀qs:List Rc,(∀r∈qs,okR r)→∀h,Pb (lL (ro (Is A t qs)) (rq [59] 0 (Is A t qs))) (lL (ro (Is A t qs)) (rq [59] 0 (Is A t qs))) h=.ok (.bl true) h:=fun qs hq h=>Fe (wJ A t qs hq h);have pT:∀qs:List Rc,(lL (ro (Is A t qs)) (rq [59] 0 (Is A t qs))).pure=true:=fun qs=>by rcases mY A t qs with o|o<;>rw[o]<;>rfl
 generalize hTT:(fun qs:List Rc=>lL (ro (Is A t qs)) (rq [59] 0 (Is A t qs)))=TT at*;have hT:∀qs,lL (ro (Is A t qs)) (rq [59] 0 (Is A t qs))=TT qs:=fun qs=>by rw[← hTT]
 simp only[hT]at Yx cwr tne teq pT;have ly:∀i,i<7→∀c∈ys.getD i [],c<1114112:=fun i hi=>qq (ho _ (hy _ (eK (by omega)))).1;have tt:=fun h=>rT (ys.getD 2 []) (ys.getD 1 []) h (ly 2 (by decide)) (ly 1 (by decide));rw[← ht]at tt;have i2':∀h,B_ (Ou ys) (.int 2) h=.ok (.str (ys.getD 2 [])) h:=i2;have i1':∀h,B_ (Ou ys) (.int 1) h=.ok (.str (ys.getD 1 [])) h:=i1;obtain⟨H1,hH1⟩:∃H1:List PO,H1= [M5 n5 0,.lst (rs.map fun r=>iv r.th),.G7 (.lst (rs.map (rv A)))]:=⟨_,rfl⟩
 obtain⟨H2,hH2⟩:∃H2:List PO,H2= [M5 n5 0,.G7 (dT rs),.G7 (.lst (rs.map (rv A)))]:=⟨_,rfl⟩
 have d1:bR (F 69 .O9) [.ref 1,dG rs,dB rs,.bl t] H1=.ok (TT rs) H2:=by
  have fr:M7 [.ref 1,dG rs,dB rs,.bl t] H1=some ([dT rs,dG rs,dB rs,.bl t],H2):=by
   have f1:eL H1 (.ref 1)=some (dT rs,H2):=by rw[hH1,hH2];show(if ag (rs.map fun r=>iv r.th)=true then some (PV.lst (rs.map fun r=>iv r.th),[M5 n5 0,.G7 (.lst (rs.map fun r=>iv r.th)),.G7 (.lst (rs.map (rv A)))])else none)=_;rw[rY];rfl
   have f2:=sg (l:=[dG rs,dB rs,.bl t]) H2 (by rw[ag,ag,xz,xA];rfl);rw[M7,f1];dsimp only;rw[f2]
  rw[bX,fr];dsimp only;rw[Yx rs (by omega) hr]
 have g1:ao H1 (.ref 1)=.ref 1:=by rw[hH1];rfl
 rw[← hH1];refine eO _ H2 (by simp only[EX,eg,show∀h,ao h (dG rs)=dG rs from fun _=>rfl,show∀h,ao h (dB rs)=dB rs from fun _=>rfl,g1,i1',i2',tt,d1];rfl) ?_;have db:∀h,ao h bk=bk:=fun h=>aq h pbk;have dTT:∀h qs,ao h (TT qs)=TT qs:=fun h qs=>aq h (pT qs);have dV:∀h qs,ao h (PV.dct [(.inr A.mn,vV A qs)])=.dct [(.inr A.mn,vV A qs)]:=fun h qs=>rfl;have cw1:=cwr rs (by omega) hr;have rr:∀r∈rs.reverse,okR r:=fun r h=>hr r (List.mem_reverse.mp h);have rl4:rs.reverse.length≤4:=by rw[List.length_reverse];omega
 have c2':=cwr rs.reverse rl4 rr;refine eO _ H2 (by simp only[EX,db,dV,dTT,cw1,tne rs hr];rfl) ?_;have Xl:∀xs:List PV,jj (.lst xs) (.int (-1)) H2=.ok (.lst xs.reverse) H2:=fun xs=>rfl;have g1':ao H2 (.ref 1)=dT rs:=by rw[hH2];rfl
 have g2':ao H2 (.ref 2)=.lst (rs.map (rv A)):=by rw[hH2];rfl
 have ng:∀h,oZ (.int 1) h=.ok (.int (-1)) h:=fun h=>rfl;have rv':PV.lst (rs.map (rv A)).reverse=.lst (rs.reverse.map (rv A)):=by rw[List.map_reverse]
 have bT:jj (dT rs) (.int (-1)) H2=.ok (dT rs.reverse) H2:=by unfold dT;rw[Xl,List.map_reverse]
 have bG:jj (dG rs) (.int (-1)) H2=.ok (dG rs.reverse) H2:=by unfold dG;rw[Xl,List.map_reverse]
 have bB:jj (dB rs) (.int (-1)) H2=.ok (dB rs.reverse) H2:=by unfold dB;rw[Xl,List.map_reverse]
 have du:=xx (ρ:=[some (cv cs),some (.ref 0),some (Ou ls),some (Ou ys),some (.int (a:Int)),some (Ou fs),some (.int (M:Int)),some (.ref 1),z8,some (dG rs),some (dB rs),some (.ref 2),some bk,some (.dct [(.inr A.mn,vV A rs)]),some (TT rs),none]) (h:=H2) (h1:=H2) (h2:=H2) (fa:=c2 B_ (ae 3) aad) (fb:=gM [((c2 B_ (ae 5) aad),(c2 jj (ae 11) aaM))]) (x:=A.mn) (y:=vV A rs.reverse) (by simp only[EX,eg,i0]) (xx (h1:=H2) (by simp only[EX,eg,j0]) (by simp only[EX,g2',Xl,ng,rv']));refine eO _ H2 (by simp only[EX,du];rfl) ?_;have cdu:bR (F 69 .O9) [dT rs.reverse,dG rs.reverse,dB rs.reverse,.bl t] H2=.ok (TT rs.reverse) H2:=bh H2 (by rw[ag,ag,ag,Fl,xz,xA];rfl) (Yx rs.reverse rl4 rr);have gG:∀h,ao h (dG rs)=dG rs:=fun _=>rfl;have gB:∀h,ao h (dB rs)=dB rs:=fun _=>rfl;refine eO _ H2 (by simp only[EX,db,dV,dTT,c2',g1',gG,gB,eg,ng,bT,bG,bB,i1',i2',tt,cdu,tne rs.reverse rr];rfl) ?_;exact⟨H2,by simp only[EX,db,dV,dTT,cw1,teq rs hr]⟩
end U3
namespace PySem.W.Fast
open Lean in
local macro_rules|`(command|#check tws)=>do let p:=`PySem.Challenge;let q:=p.str "cw_formsmith_k12_what_names_stand_for_holds";let c←((List.range 764).map (fun i=>q.str s!"o_{i+43}")++("sts_397 sts_525 sts_101 sts_226 sts_86 tree_772 tree_70 tree_47 tree_806 tree_137 sts_585 tree_460 env_41 heap_807 tree_282 sts_773 tree_524 sts_283 sts_49 tree_100 sts_461 tree_561 tree_670 tree_339 heap_39 tree_396 view_39 sts_138 tree_188 tree_584 sts_71 sts_722 heap_46 sts_671 sts_562 tree_225 tree_85 tree_721 sts_340 sts_189".splitOn.map q.str)++[p.str "pw_formsmith_k12_what_names_stand_for",p.str "rw_formsmith_k12_what_names_stand_for"]).mapM fun n=>`(command|theorem $(mkIdent (.mkSimple s!"tw{n.hash}")):ident:True:=⟨⟩);return mkNullNode c.toArray
#check tws
end PySem.W.Fast
open PySem PySem.W PyProof.Rows
set_option maxRecDepth 100000 in
set_option maxHeartbeats 0 in
theorem PySem.Challenge.cw_formsmith_k12_what_names_stand_for_holds : PySem.Challenge.rw_formsmith_k12_what_names_stand_for.Holds := by
  w_on; o_law; k_head; (case hw => w_witness2)
  k_fill
  refine L3.Bg (l := PySem.Challenge.rw_formsmith_k12_what_names_stand_for) (k := U3.dl 70) (x := "_law_script") rfl rfl ⟨rfl, by decide, by decide, rfl⟩ (fun w h Y => W.kIn_of Y) ?F
  case F =>
    intro w mg fa h KX G Zz
    refine' U3.Jz U3.Bh KX G Zz ?Ub ?TX ?T7 ?TV ?TJ ?QL ?QS ?QM ?R_ ?RP ?R8 ?RM ?RK ?Pg ?Pj ?Ph ?Vo ?Vf ?Vl ?Ve ?Va ?Vg ?Vi ?Qq ?Pu ?R9 ?RN ?R7 ?RL ?RJ ?RV ?RZ ?Qe ?Ot ?Rk ?Qw ?Qv ?Qu ?D_ ?Rg ?Rf ?Rb ?Ra ?Q_ ?Q9 ?hf ?J2 ?K8 ?J9 ?I_ ?K7 ?J7 ?G5 ?QT ?G9 ?K6 ?G_ ?G8 ?hn
    (case Ub=>k_is);(case TX=>k_is);(case T7=>k_is);(case TV=>k_is);(case TJ=>k_is);(case QL=>k_is);(case QS=>k_is);(case QM=>k_is);(case R_=>k_is);(case RP=>k_is);(case R8=>k_is);(case RM=>k_is);(case RK=>k_is);(case Pg=>k_is);(case Pj=>k_is);(case Ph=>k_is);(case Vo=>k_is);(case Vf=>k_is);(case Vl=>k_is);(case Ve=>k_is);(case Va=>k_is);(case Vg=>k_is);(case Vi=>k_is);(case Qq=>k_is);(case Pu=>k_is);(case R9=>k_is);(case RN=>k_is);(case R7=>k_is);(case RL=>k_is);(case RJ=>k_is);(case RV=>k_is);(case RZ=>k_is);(case Qe=>k_is);(case Ot=>k_is);(case Rk=>k_is);(case Qw=>k_is);(case Qv=>k_is);(case Qu=>k_is);(case D_ => kts_exm)
    (case Rg => first | rfl | kernel_rfl)
    (case Rf=>k_is);(case Rb => first | rfl | kernel_rfl)
    (case Ra=>k_is);(case Q_=>k_is);(case Q9=>k_is)
    (case hf => intro f; cases f <;> (refine' U3.fq (Ad := U3.adP _ _ _) ?fa ?fl ?fc ?fk ?fb; (case fa => dsimp only [U3.adP]; first | k_is | ((repeat' apply And.intro) <;> k_is)); (case fl=>k_is); (case fc=>k_is); (case fk=>k_is); (case fb => intro _ _ _ _ _ _ us hl; first | (obtain rfl := U3.us0 hl; rfl) | (obtain ⟨_, rfl⟩ := U3.us1 hl; rfl) | (obtain ⟨_, _, rfl⟩ := U3.us2 hl; rfl) | (obtain ⟨_, _, _, rfl⟩ := U3.us3 hl; rfl) | (obtain ⟨_, _, _, _, rfl⟩ := U3.us4 hl; rfl) | (obtain ⟨_, _, _, _, _, rfl⟩ := U3.us5 hl; rfl) | (obtain ⟨_, _, _, _, _, _, rfl⟩ := U3.us6 hl; rfl) | (obtain ⟨_, _, _, _, _, _, _, rfl⟩ := U3.us7 hl; rfl))))
    (case J2=>k_is);(case K8=>k_is);(case J9=>k_is);(case I_=>k_is);(case K7=>k_is);(case J7=>k_is);(case G5=>k_is);(case QT=>k_is);(case G9=>k_is);(case K6=>k_is);(case G_=>k_is);(case G8=>k_is)
    (case hn => intro i; cases i <;> k_is)
