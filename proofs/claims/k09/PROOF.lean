import PyProof.Rows.All
import Wide.All
import OpenK.AllK
import Wide.FinOn
import Lean
import PyProof.EqAt
import PyProof.EqKinds
import PyProof.TupleCall
import PyProof.StationsW
import KE.KTryMore
import PyProof.ExcAttrAll.ValueError
import PyProof.ExcClass3
import PyProof.InstStoreFacts
import KE.KDictList
import KE.KEqDict
import KE.KDictSum
import PyProof.Rows.SortStr
import PyProof.Draws
import PyProof.EnumMake
import KE.KRevIter
import PyProof.TupleOps
import PyProof.Rows.Tup
import PyProof.ListNew
import PyProof.ListStr
import PyProof.CollectWalk
import KE.KDictOf
import PyProof.AttrMissHeap
import KE.LcSums
import PyProof.StrCalls
import PySem.Challenge.RW_formsmith_k09_wrong_names_refused
noncomputable section
set_option Elab.async false
set_option linter.all false
set_option maxRecDepth 100000
namespace L2
open PySem PySem.Spec PyProof.Rows
theorem acf(a b:Bool):((a&&b)=true)=(a=true∧b=true):=Bool.and_eq_true a b
theorem acg(n:Nat):n≤n:=Nat.le_refl n
abbrev Key:=Sum Int Str
noncomputable def qk:Key→Value→Bool
 |.inl k,v=>Value.isInt k v
 |.inr x,v=>Value.isStrOf x v
noncomputable def JW(w:World):Key→Int
 |.inl k=>hashInt k
 |.inr x=>hashStr w x
theorem cH:∀{k:Key}{v:Value},qk k v=true→(∃i t,k=Sum.inl i∧v=Value.int i t)∨(∃x t,k=Sum.inr x∧v=Value.str x t)
 |.inl i,v,h=>by obtain⟨t,e⟩:=Value.isInt_shape (k:=i) (v:=v) h;exact .inl ⟨i,t,rfl,e⟩
 |.inr x,v,h=>by obtain⟨t,e⟩:=Value.isStrOf_shape (x:=x) (v:=v) h;exact .inr ⟨x,t,rfl,e⟩
theorem yM(i:Int)(t:Tok):qk (.inl i) (.int i t)=true:=by simp[qk,Value.isInt]
theorem yL(x:Str)(t:Tok):qk (.inr x) (.str x t)=true:=by simp[qk,Value.isStrOf]
theorem Gv(a b:Int):decide ((Sum.inl a:Key)=Sum.inl b)=(a==b):=by
 by_cases e:a=b
 ·subst e;simp
 ·have h:¬ (Sum.inl a:Key)=Sum.inl b:=fun q=>e (Sum.inl.inj q);rw[decide_eq_false h];exact(beq_eq_false_iff_ne.mpr e).symm
theorem Gr(a b:Str):decide ((Sum.inr a:Key)=Sum.inr b)=decide (a=b):=by
 by_cases e:a=b
 ·subst e;simp
 ·have h:¬ (Sum.inr a:Key)=Sum.inr b:=fun q=>e (Sum.inr.inj q);rw[decide_eq_false h,decide_eq_false e]
theorem Gu(a:Int)(b:Str):decide ((Sum.inl a:Key)=Sum.inr b)=false:=decide_eq_false (fun q=>nomatch q)
theorem Gs(a:Str)(b:Int):decide ((Sum.inr a:Key)=Sum.inl b)=false:=decide_eq_false (fun q=>nomatch q)
def cS(prog:Program)(w:World):PySem.KeyKind prog w Key where
 is:=qk
 hash:=JW w
 inj:=fun v a b ha hb=>by
  rcases cH ha with⟨i,t,rfl,rfl⟩|⟨x,t,rfl,rfl⟩
  ·rcases cH hb with⟨j,u,rfl,e⟩|⟨y,u,rfl,e⟩
   ·injection e with e1 _;rw[e1]
   ·exact nomatch e
  ·rcases cH hb with⟨j,u,rfl,e⟩|⟨y,u,rfl,e⟩
   ·exact nomatch e
   ·injection e with e1 _;rw[e1]
 byValue:=fun k v h=>by rcases cH h with⟨i,t,rfl,rfl⟩|⟨x,t,rfl,rfl⟩<;>rfl
 pyHash:=fun hv h=>by
  rcases cH hv with⟨i,t,rfl,rfl⟩|⟨x,t,rfl,rfl⟩
  ·exact wpAny_pyHash_int h
  ·exact wpAny_pyHash_str h
 eqBool:=fun hu hv h=>by
  rcases cH hu with⟨i,t,rfl,rfl⟩|⟨x,t,rfl,rfl⟩
  ·rcases cH hv with⟨j,u,rfl,rfl⟩|⟨y,u,rfl,rfl⟩
   ·rw[Gv]at h;exact wpAny_eqBool_int h
   ·rw[Gu]at h;exact SeqAt.EqAt.int_str i t y u _ _ _ _ h
  ·rcases cH hv with⟨j,u,rfl,rfl⟩|⟨y,u,rfl,rfl⟩
   ·rw[Gs]at h;exact SeqAt.EqAt.str_int x t j u _ _ _ _ h
   ·rw[Gr]at h;exact wpAny_eqBool_str h
 «strs» :=fun k x t v h=>by
  rcases cH h with⟨i,u,rfl,e⟩|⟨y,u,rfl,e⟩
  ·exact nomatch e
  ·injection e with e1 _
   subst e1
   cases v<;>rfl
theorem uq(prog:Program)(w:World)(i:Int)(t:Tok):(cS prog w).is (.inl i) (.int i t)=true:=yM i t
theorem uo(prog:Program)(w:World)(x:Str)(t:Tok):(cS prog w).is (.inr x) (.str x t)=true:=yL x t
inductive V where
 |non|bl (b:Bool)|int (i:Int)|str (x:Str)|Wb (b:Array UInt8)|flt (b:UInt64)|ref (a:Addr)|ty (n:String)
 deriving DecidableEq
def bB:V→Value→Prop
 |.non,u=>u=Value.none
 |.bl b,u=>u=Value.bool b
 |.int i,u=>∃t,u=Value.int i t
 |.str x,u=>∃t,u=Value.str x t
 |.Wb b,u=>∃t,u=Value.bytes b t
 |.flt b,u=>∃t,u=Value.float b t
 |.ref a,u=>u=Value.ref a
 |.ty n,u=>u=Value.type n
abbrev bh:List V→List Value→Prop:=Paired bB
theorem bh.length{xs:List V}{us:List Value}(r:bh xs us):xs.length=us.length:=Paired.length r
theorem bh.get:∀{xs:List V}{us:List Value}{i:Nat}{x:V},bh xs us→xs[i]? =some x→∃u,us[i]? =some u∧bB x u
 |_,_,_,_,.nil,e=>by simp at e
 |_,_,0,_,.cons r _,e=>by simp at e;subst e;exact⟨_,rfl,r⟩
 |_,_,i+1,x,.cons _ t,e=>by obtain⟨u,h1,h2⟩:=bh.get (i:=i) (x:=x) t (by simpa using e);exact⟨u,by simpa using h1,h2⟩
theorem bh.set{x:V}{u:Value}(r:bB x u):∀{xs:List V}{us:List Value}(i:Nat),bh xs us→bh (xs.set i x) (us.set i u)
 |_,_,_,.nil=>.nil
 |_,_,0,.cons _ t=>.cons r t
 |_,_,i+1,.cons q t=>.cons q (bh.set r i t)
theorem bh.append:∀{xs ys:List V}{us ws:List Value},bh xs us→bh ys ws→bh (xs++ys) (us++ws)
 |_,_,_,_,.nil,s=>s
 |_,_,_,_,.cons r t,s=>.cons r (bh.append t s)
theorem bh.take:∀{xs:List V}{us:List Value}(n:Nat),bh xs us→bh (xs.take n) (us.take n)
 |_,_,0,_=>.nil
 |_,_,_+1,.nil=>.nil
 |_,_,n+1,.cons r t=>.cons r (bh.take n t)
theorem bh.drop:∀{xs:List V}{us:List Value}(n:Nat),bh xs us→bh (xs.drop n) (us.drop n)
 |_,_,0,r=>r
 |_,_,_+1,.nil=>.nil
 |_,_,n+1,.cons _ t=>bh.drop n t
def oZ:Option V→Option Value→Prop
 |some v,some u=>bB v u
 |none,none=>True
 |_,_=>False
def KV{κ:Type}:List (κ×V)→List (κ×Value)→Prop:=Paired fun(p:κ×V)(q:κ×Value)=>p.1=q.1∧bB p.2 q.2
noncomputable def kV:Key→V
 |.inl i=>.int i
 |.inr x=>.str x
inductive HO where
 |lst (xs:List V)
 |tup (xs:List V)
 |dK (kvs:List (Key×V))|dT (kvs:List (List Key×V))
 |set (S:Int→Bool) (n:Nat)
 |ins (C dx:Addr) (fs:List (Str×V))
 |own (x:Addr)
 |xd (fs:List (Str×V))
 |met (f x:Addr)
 |rng (lo hi:Int)
 |QX (o:Obj) (u:HO)
 |U4 (ps:Array Value)
 |ext (φ:Heap→Prop)
abbrev Hp:=Addr→Option HO
noncomputable def upd(H:Hp)(a:Addr)(o:HO):Hp:=fun b=>if b=a then some o else H b
theorem aJ{H:Hp}{a:Addr}{o:HO}:upd H a o a=some o:=by unfold upd;rw[if_pos rfl]
theorem ak{H:Hp}{a b:Addr}{o:HO}(h:b≠a):upd H a o b=H b:=by unfold upd;rw[if_neg h]
theorem wD{H:Hp}{a:Addr}{o u:HO}:upd (upd H a o) a u=upd H a u:=by funext b;unfold upd;split<;>rfl
theorem qd{H:Hp}{a b:Addr}{o u:HO}(h:H a=some o)(h':H b=some u)(d:o≠u):a≠b:=by intro e;subst e;rw[h]at h';exact d (Option.some.inj h')
theorem aD{H:Hp}{a b:Addr}{o:HO}(h:H a=some o)(h':H b=none):a≠b:=by intro e;subst e;rw[h]at h';cases h'
section
variable(P:Program)(w:World)
def bR(H:Hp)(h:Heap)(a:Addr):HO→Prop
 |.lst xs=>xs.length≤sizeLine∧∃(its:List Value)(n:Nat),bh xs its∧h.get? a=some { cls:=.type "list",data:=.seq its.toArray n }
 |.tup xs=>xs.length≤sizeLine∧∃its:List Value,bh xs its∧IsTup h a its.toArray
 |.dK kvs=>kvs.length≤sizeLine∧(a==sysModules)=false∧∃vs,KV kvs vs∧h.DictOf (cS P w) a vs
 |.dT kvs=>kvs.length≤sizeLine∧(a==sysModules)=false∧∃xs:List (List Key×Addr×Value),
   Paired (fun(p:List Key×V)(q:List Key×Addr×Value)=>p.1=q.1∧H q.2.1=some (.tup (p.1.map kV))∧bB p.2 q.2.2) kvs xs∧
   ∃o es ep,h.get? a=some o∧o.ExactDict∧o.data=.dict es ep∧es.toList=xs.map (entryOfKey (tupleKind (cS P w)))∧(xs.map (·.1)).Nodup
 |.set S n=>h.SetOf (intKind P w) a S n
 |.ins C dx fs=>H dx=some (.own a)∧fs.length≤1000∧dx≠a∧h.get? a=some (W.instObj C dx)∧
   ∃mA,h.Ns1 dx mA∧(∀f,oZ (fs.lookup f) (mA f))∧PySem.Within mA (fs.map (·.1))
 |.own _=>∃o,h.get? a=some o
 |.xd fs=>∃mA,h.Ns1 a mA∧∀f,oZ (fs.lookup f) (mA f)
 |.rng lo hi=>∃t u v,h.get? a=some { cls:=.type "range",data:=.fields #[.int lo t,.int hi u,.int 1 v] }
 |.QX o u=>h.get? a=some o∧bR H h a u
 |.U4 ps=>h.get? a=some { cls:=.none,data:=.fields ps }
 |.met f x=>h.get? a=some (W.methodObj (.ref f) (.ref x))
 |.ext φ=>φ h∧(∃o,h.get? a=some o)∧∀h1 h2:Heap,φ h1→(∀o,h1.get? a=some o→h2.get? a=some o)→φ h2
def Ob(H:Hp)(h:Heap):Prop:=∀a o,H a=some o→bR P w H h a o
end
section
variable{P:Program}{w:World}{H H':Hp}{h h':Heap}{a:Addr}{o:HO}
theorem bR.lt(x:bR P w H h a o):a<h.objs.size:=by
 cases o with
 |lst xs=>obtain⟨_,_,_,_,e⟩:=x;exact Heap.lt_size e
 |tup xs=>obtain⟨_,_,_,p⟩:=x;exact p.lt
 |dK kvs=>obtain⟨_,_,_,_,o,_,_,e,_⟩:=x;exact Heap.lt_size e
 |dT kvs=>obtain⟨_,_,_,_,o,_,_,e,_⟩:=x;exact Heap.lt_size e
 |set S n=>obtain⟨o,_,_,_,e,_⟩:=x;exact Heap.lt_size e
 |ins C dx fs=>obtain⟨_,_,_,e,_⟩:=x;exact Heap.lt_size e
 |own y=>obtain⟨_,e⟩:=x;exact Heap.lt_size e
 |xd fs=>obtain⟨_,⟨_,_,_,e,_⟩,_⟩:=x;exact Heap.lt_size e
 |rng lo hi=>obtain⟨_,_,_,e⟩:=x;exact Heap.lt_size e
 |QX ob u=>obtain⟨e,_⟩:=x;exact Heap.lt_size e
 |U4 ps=>exact Heap.lt_size (show h.get? a=some _ from x)
 |met f y=>exact Heap.lt_size (show h.get? a=some _ from x)
 |ext φ=>obtain⟨_,⟨_,e⟩,_⟩:=x;exact Heap.lt_size e
theorem Paired.Vq{α β:Type}{F G:α→β→Prop}:∀{l₁:List α}{l₂:List β},Paired F l₁ l₂→(∀a b,F a b→G a b)→Paired G l₁ l₂
 |_,_,.nil,_=>.nil
 |_,_,.cons r t,f=>.cons (f _ _ r) (Paired.Vq t f)
theorem bR.stay(x:bR P w H h a o)(k:∀b u,(b=a∨H b=some (.own a))→h.get? b=some u→h'.get? b=some u)
  (ho:∀b,H b=some (.own a)→H' b=some (.own a)) (ht:∀b xs,H b=some (.tup xs)→H' b=some (.tup xs)):bR P w H' h' a o:=by
 induction o with
 |lst xs=>obtain⟨z,its,n,r,e⟩:=x;exact⟨z,its,n,r,k _ _ (.inl rfl) e⟩
 |tup xs=>obtain⟨z,its,r,ob,e,c⟩:=x;exact⟨z,its,r,ob,k _ _ (.inl rfl) e,c⟩
 |dK kvs=>obtain⟨z,y,vs,r,ob,es,ep,e,c⟩:=x;exact⟨z,y,vs,r,ob,es,ep,k _ _ (.inl rfl) e,c⟩
 |dT kvs=>obtain⟨z,y,xs,r,ob,es,ep,e,c⟩:=x;exact⟨z,y,xs,Paired.Vq r fun p q z=>⟨z.1,ht _ _ z.2.1,z.2.2⟩,ob,es,ep,k _ _ (.inl rfl) e,c⟩
 |set S n=>obtain⟨ob,es,ep,t,e,c⟩:=x;exact⟨ob,es,ep,t,k _ _ (.inl rfl) e,c⟩
 |ins C dx fs=>obtain⟨d,z,ne,e,mA,⟨od,es,ep,e2,c⟩,r⟩:=x;exact⟨ho _ d,z,ne,k _ _ (.inl rfl) e,mA,⟨od,es,ep,k _ _ (.inr d) e2,c⟩,r⟩
 |own y=>obtain⟨ob,e⟩:=x;exact⟨ob,k _ _ (.inl rfl) e⟩
 |xd fs=>obtain⟨mA,⟨od,es,ep,e,c⟩,r⟩:=x;exact⟨mA,⟨od,es,ep,k _ _ (.inl rfl) e,c⟩,r⟩
 |rng lo hi=>obtain⟨t,u,v,e⟩:=x;exact⟨t,u,v,k _ _ (.inl rfl) e⟩
 |QX ob u ih=>obtain⟨e,q⟩:=x;exact⟨k _ _ (.inl rfl) e,ih q⟩
 |U4 ps=>have e:h.get? a=some { cls:=.none,data:=.fields ps }:=x;show h'.get? a=some { cls:=.none,data:=.fields ps };exact k a _ (.inl rfl) e
 |met f y=>have e:h.get? a=some (W.methodObj (.ref f) (.ref y)):=x;show h'.get? a=some (W.methodObj (.ref f) (.ref y));exact k a _ (.inl rfl) e
 |ext φ=>obtain⟨p,⟨o,e⟩,st⟩:=x;exact⟨st _ _ p fun o q=>k _ _ (.inl rfl) q,⟨o,k _ _ (.inl rfl) e⟩,st⟩
theorem Ob.lt(x:Ob P w H h)(e:H a=some o):a<h.objs.size:=(x a o e).lt
theorem Ob.fresh(x:Ob P w H h)(e:h.objs.size≤a):H a=none:=by
 cases q:H a with
 |none=>rfl
 |some u=>exact absurd (Nat.lt_of_lt_of_le (x.lt q) e) (Nat.lt_irrefl _)
theorem Ob.kept(x:Ob P w H h)(k:∀b u,h.get? b=some u→h'.get? b=some u):Ob P w H h':=fun a o e=>(x a o e).stay (fun b u _ q=>k b u q) (fun _ q=>q) fun _ _ q=>q
theorem Ob.laid(x:Ob P w H h)(k:∀b u,h.get? b=some u→h'.get? b=some u)(hp:h.objs.size≤a)(new:bR P w (upd H a o) h' a o):Ob P w (upd H a o) h':=fun b u e=>by
 have hn:=x.fresh hp
 by_cases hb:b=a
 ·subst hb;rw[aJ]at e;cases e;exact new
 ·rw[ak hb]at e;exact(x b u e).stay (fun c v _ q=>k c v q) (fun c q=>by rw[ak (aD q hn)];exact q) fun c xs q=>by rw[ak (aD q hn)];exact q
end
def Rd(H:Hp)(a:Addr)(u:HO):Prop:=H a=some u∨∃o,H a=some (.QX o u)
theorem Rd.ok{P:Program}{w:World}{H:Hp}{h:Heap}{a:Addr}{u:HO}(r:Rd H a u)(x:Ob P w H h):bR P w H h a u:=by
 rcases r with r|⟨o,r⟩
 ·exact x a u r
 ·obtain⟨_,q⟩:=x a _ r;exact q
def Xh:Option HO→Prop
 |some (.lst _)=>True
 |some (.dK _)=>True
 |some (.dT _)=>True
 |some (.set _ _)=>True
 |some (.ins _ _ _)=>True
 |some (.ext _)=>True
 |_=>False
section
variable{P:Program}{w:World}{H:Hp}{h h':Heap}{x e:Addr}{o':HO}
theorem Ob.write(ok:Ob P w H h)(mu:Xh (H x))(he:e=x∨H e=some (.own x))(k:∀b u,b≠e→h.get? b=some u→h'.get? b=some u)(V9:∃u,h'.get? e=some u)
  (new:bR P w (upd H x o') h' x o'):Ob P w (upd H x o') h':=fun b u q=>by
 have Wv:∀c y,H c=some (.own y)→c≠x:=fun c y r z=>by subst z;rw[r]at mu;exact mu
 have Yu:∀c xs,H c=some (.tup xs)→c≠x:=fun c xs r z=>by subst z;rw[r]at mu;exact mu
 by_cases hb:b=x
 ·subst hb;rw[aJ]at q;cases q;exact new
 ·rw[ak hb]at q
  by_cases hbe:b=e
  ·have q':H b=some (.own x):=by
    rcases he with z|z
    ·exact absurd (hbe.trans z) hb
    ·rw[hbe];exact z
   rw[q]at q';cases q';obtain⟨v,hv⟩:=V9;exact⟨v,by rw[hbe];exact hv⟩
  ·refine(ok b u q).stay (fun c v hc r=>k c v ?_ r) (fun c r=>by rw[ak (Wv c b r)];exact r) fun c xs r=>by rw[ak (Yu c xs r)];exact r
   rcases hc with rfl|hc
   ·exact hbe
   ·rintro rfl
    rcases he with z|z
    ·exact Wv c b hc z
    ·rw[hc]at z;cases z;exact hb rfl
end
structure Un(fs ex:List Addr)(H H':Hp)(h h':Heap):Prop where
 keep:∀b o,h.get? b=some o→H b=none→b∉fs→b∉ex→h'.get? b=some o
 slot:∀b o,h.get? b=some o→H b=none→b∈fs→b∉ex→∃sl,h'.get? b=some { o with slots:=sl }
 free:∀b o,h.get? b=some o→H b=none→b∉ex→H' b=none
 there:∀b o,h.get? b=some o→b∉ex→∃o',h'.get? b=some o'
 tups:∀b xs,H b=some (.tup xs)→H' b=some (.tup xs)
 MP:∀b o u,H b=some (.QX o u)→H' b=some (.QX o u)
 Ph:∀b ps,H b=some (.U4 ps)→∃more,H' b=some (.U4 (ps++more))
section
variable{fs fs' ex ex':List Addr}{H H1 H2:Hp}{h h1 h2 h':Heap}{a x e:Addr}{o:HO}
theorem Un.any(u:Un fs ex H H1 h h1){b:Addr}{ob:Obj}(q:h.get? b=some ob)(n:H b=none)(hx:b∉ex):∃sl,h1.get? b=some { ob with slots:=sl }:=by
 by_cases hb:b∈fs
 ·exact u.slot b ob q n hb hx
 ·exact⟨ob.slots,u.keep b ob q n hb hx⟩
theorem Un.kept(k:∀b u,h.get? b=some u→h'.get? b=some u):Un fs ex H H h h':=
 ⟨fun b ob q _ _ _=>k b ob q,fun b ob q _ _ _=>⟨ob.slots,k b ob q⟩,fun _ _ _ n _=>n,fun b ob q _=>⟨ob,k b ob q⟩,fun _ _ q=>q,fun _ _ _ q=>q,fun _ ps q=>⟨#[],by rw[q];simp⟩⟩
theorem Un.refl:Un fs ex H H h h:=Un.kept fun _ _ q=>q
theorem Un.laid(k:∀b u,h.get? b=some u→h'.get? b=some u)(hp:h.objs.size≤a)(hn:H a=none):Un fs ex H (upd H a o) h h' where
 keep:=fun b u q _ _ _=>k b u q
 slot:=fun b u q _ _ _=>⟨u.slots,k b u q⟩
 free:=fun b u q n _=>by rw[ak (Nat.ne_of_lt (Nat.lt_of_lt_of_le (Heap.lt_size q) hp))];exact n
 there:=fun b u q _=>⟨u,k b u q⟩
 tups:=fun b xs q=>by rw[ak (aD q hn)];exact q
 MP:=fun b u xs q=>by rw[ak (aD q hn)];exact q
 Ph:=fun b ps q=>⟨#[],by rw[ak (aD q hn),q];simp⟩
theorem Un.write(mu:Xh (H x))(he:e=x∨H e=some (.own x))(k:∀b u,b≠e→h.get? b=some u→h'.get? b=some u)(V9:∃u,h'.get? e=some u):Un fs ex H (upd H x o) h h':=by
 have hx:∀b,H b=none→b≠x:=fun b n z=>by subst z;rw[n]at mu;exact mu
 have hb:∀b,H b=none→b≠e:=fun b n z=>by
  subst z;rcases he with r|r
  ·exact hx b n r
  ·rw[n]at r;cases r
 have hm:∀b u,H b=some u→¬ Xh (some u)→b≠x:=fun b u q nm z=>by subst z;rw[q]at mu;exact nm mu
 refine⟨fun b u q n _ _=>k b u (hb b n) q,fun b u q n _ _=>⟨u.slots,k b u (hb b n) q⟩,fun b u q n _=>by rw[ak (hx b n)];exact n,fun b u q _=>?_,
  fun b xs q=>by rw[ak (hm b _ q fun z=>z)];exact q,fun b u xs q=>by rw[ak (hm b _ q fun z=>z)];exact q,fun b ps q=>⟨#[],by rw[ak (hm b _ q fun z=>z),q];simp⟩⟩
 by_cases hbe:b=e
 ·subst hbe;exact V9
 ·exact⟨u,k b u hbe q⟩
end
noncomputable def Xn(h:Heap)(H:Hp):List Addr:=(List.range h.objs.size).filter fun a=>(H a).isSome
def rW(h:Heap)(H:Hp):Heap:=W.hideAll h (Xn h H)
theorem yP(h:Heap)(H:Hp):(rW h H).objs.size=h.objs.size:=W.hideAll_size _ _
theorem Bs{h:Heap}{H:Hp}{b:Addr}{o:Obj}(e:h.get? b=some o)(n:H b=none):(rW h H).get? b=some o:=
 W.hideAll_get _ e fun hm=>by have q:(H b).isSome=true:=(List.mem_filter.mp hm).2;rw[n]at q;simp at q
theorem Dm{h:Heap}{H:Hp}{b:Addr}{o:Obj}(e:(rW h H).get? b=some o):h.get? b=some o∧H b=none:=by
 have e':h.get? b=some o:=W.of_hideAll (Xn h H) e;refine⟨e',?_⟩
 cases q:H b with
 |none=>rfl
 |some x=>have hm:b∈Xn h H:=List.mem_filter.mpr ⟨List.mem_range.mpr (Heap.lt_size e'),by simp[q]⟩;have z:(rW h H).get? b=none:=W.hideAll_none (Xn h H) hm;rw[z]at e;cases e
structure Mod(K:W.Frag)(mg:Str→Option Value)(base:Heap):Prop where
 NQ:K.In base
 glob:base.Ns mainGlobals mg
 blt:∃mb,base.Ns builtinsNs mb∧∀x:Str,x≠"__name__"→mb x=bootBuiltins x
 nolimit:base.NoLimit
structure Cx where
 prog:Program
 w:World
 K:W.Frag
 mg:Str→Option Value
 base:Heap
 A:Around
 N:List Str
 s₀:Shared
 H₀:Hp
 env:Env
 outer:List Env
 stack:List Env
 ex:List Addr
 fn:Str→Bool
 calm:Bool
 pn:List (Addr×Obj)
 xe:Value→Shared→Prop
noncomputable def frs(l:List Env):List Addr:=l.filterMap (·.frame)
abbrev Cx.fs(X:Cx):List Addr:=frs X.outer
def Xd(sc:Scope)(x:Str):Prop:=sc.names.lookup x=some .local∨sc.names.lookup x=some .cell∨sc.names.lookup x=some .free
def Loc(sc:Scope)(x:Str):Prop:=sc.names.lookup x=some .local∨sc.names.lookup x=some .cell
def KW(env:Env)(h:Heap)(m:Str→Option Value)(x:Str)(u:Value):Prop:=
 (env.kindOf x=some .local∧m x=some u)∨((env.kindOf x=some .cell∨env.kindOf x=some .free)∧∃c,env.cells.lookup x=some c∧h.IsCell c (some u))
structure Cx.Ok(X:Cx):Prop where
 mod:Mod X.K X.mg X.base
 kind:X.env.scope.kind=.function
 glob:X.env.globals=mainGlobals
 blt:X.env.builtins=builtinsNs
 above:X.s₀.heap.objs.size≤X.env.locals
 inj:∀x y c,X.env.cells.lookup x=some c→X.env.cells.lookup y=some c→x=y
 has:∀x,(X.env.kindOf x=some .cell∨X.env.kindOf x=some .free)→∃c,X.env.cells.lookup x=some c
 cab:∀x c,X.fn x=true→X.env.cells.lookup x=some c→X.s₀.heap.objs.size≤c
 hd:X.calm=true→X.A.handled=none
 frames:X.A.frames=some X.stack
 stk:X.stack=X.outer∨(X.stack=X.env::X.outer∧X.env.frame=some X.env.locals)
 W8:∀b∈X.ex,b≠X.env.locals∧∀x c,X.env.cells.lookup x=some c→c≠b
 bs:∀b o,X.base.get? b=some o→X.s₀.heap.get? b=some o∧X.H₀ b=none
 Tg:X.base.objs.size≤X.s₀.heap.objs.size
 Rm:∀b o,X.base.get? b=some o→b∉X.ex
 Sd:∀b∈X.ex,b∉X.fs
 Pk:X.s₀.heap.FunFrames X.base X.outer
 Ud:∀b∈X.fs,X.H₀ b=none
structure Inv(X:Cx)(pins:List (Addr×Obj))(σ:List (Option V))(H:Hp)(s:Shared):Prop where
 ok:X.Ok
 os:s.os=X.s₀.os
 bare:AllBare s.gens
 base:Un X.fs X.ex X.H₀ H X.s₀.heap s.heap
 loc:∃m,s.heap.Ns X.env.locals m∧∀(i:Nat)(x:Str)(v:V),X.N[i]? =some x→σ[i]? =some (some v)→Xd X.env.scope x→∃u,bB v u∧KW X.env s.heap m x u
 cell:∀x c,X.env.cells.lookup x=some c→∃v,s.heap.IsCell c v
 free:H X.env.locals=none
 Nh:∀x c,X.env.cells.lookup x=some c→H c=none
 pin:∀p∈X.pn++pins,s.heap.get? p.1=some p.2∧H p.1=none∧p.1≠X.env.locals∧p.1∉X.fs∧∀v,p.2.data≠.cell v
 hok:Ob X.prog X.w H s.heap
 len:σ.length=X.N.length
section
variable{X:Cx}{pins:List (Addr×Obj)}{σ:List (Option V)}{H H':Hp}{s:Shared}{h':Heap}
theorem Cx.Ok.Yv(ok:X.Ok){b:Addr}{o:Obj}(e:X.base.get? b=some o):b∉X.fs:=fun hb=>by have:=(ok.Pk.mem hb).1;rw[e]at this;cases this
theorem Inv.bs(I:Inv X pins σ H s):∀b o,X.base.get? b=some o→s.heap.get? b=some o∧H b=none:=fun b o e=>⟨I.base.keep b o (I.ok.bs b o e).1 (I.ok.bs b o e).2 (I.ok.Yv e) (I.ok.Rm b o e),I.base.free b o (I.ok.bs b o e).1 (I.ok.bs b o e).2 (I.ok.Rm b o e)⟩
theorem Inv.bk(I:Inv X pins σ H s):∀b o,X.base.get? b=some o→s.heap.get? b=some o:=fun b o e=>(I.bs b o e).1
theorem Inv.mod(I:Inv X pins σ H s):Mod X.K X.mg X.base:=I.ok.mod
theorem Inv.Qq(I:Inv X pins σ H s):X.K.In s.heap:=I.ok.mod.NQ.keeps I.bk
theorem Inv.lt(I:Inv X pins σ H s):X.env.locals<s.heap.objs.size:=let⟨_,hn,_⟩:=I.loc;hn.lt
theorem Inv.sz(I:Inv X pins σ H s):X.s₀.heap.objs.size≤s.heap.objs.size:=Nat.le_trans I.ok.above (Nat.le_of_lt I.lt)
theorem Inv.Ww(I:Inv X pins σ H s){a:Addr}(h:s.heap.objs.size≤a):a∉X.fs:=fun hb=>by obtain⟨_,o,ho,_⟩:=I.ok.Pk.mem hb;exact absurd (Nat.lt_of_lt_of_le (Heap.lt_size ho) (Nat.le_trans I.sz h)) (Nat.lt_irrefl _)
theorem Inv.Ve(I:Inv X pins σ H s):∀x c,X.env.cells.lookup x=some c→c≠X.env.locals:=fun x c e z=>by obtain⟨v,o,ho,hd⟩:=I.cell x c e;obtain⟨m,⟨o',es,ep,Uw,hd',_⟩,_⟩:=I.loc;rw[z,Uw]at ho;cases ho;rw[hd']at hd;cases hd
theorem Inv.Pk(I:Inv X pins σ H s):s.heap.FunFrames X.base X.outer:=by
 have all:∀(l:List Env),(∀b∈frs l,b∈X.fs)→X.s₀.heap.FunFrames X.base l→s.heap.FunFrames X.base l:=by
  intro l
  induction l with
  |nil=>intro _ _;trivial
  |cons env r ih=>intro hs hl;obtain⟨hk,⟨L,o,hf,hn,ho,hd⟩,hr⟩:=hl;have hL:L∈X.fs:=hs L (by unfold frs;rw[List.filterMap_cons,hf];exact List.mem_cons_self);obtain⟨sl,e⟩:=I.base.slot L o ho (I.ok.Ud L hL) hL fun z=>I.ok.Sd L z hL;exact⟨hk,⟨L,_,hf,hn,e,hd⟩,ih (fun b hb=>hs b (by unfold frs;rw[List.filterMap_cons,hf];exact List.mem_cons_of_mem _ hb)) hr⟩
 exact all X.outer (fun _ hb=>hb) I.ok.Pk
theorem Inv.stack(I:Inv X pins σ H s):s.heap.FunFrames X.base X.stack:=by
 rcases I.ok.stk with e|⟨e,hf⟩
 ·rw[e];exact I.Pk
 ·rw[e];obtain⟨m,hn,_⟩:=I.loc;refine .cons (by rw[I.ok.kind];decide) hf hn ?_ I.Pk;exact Heap.get?_none_of_le (Nat.le_trans I.ok.Tg I.ok.above)
theorem Inv.QD(I:Inv X pins σ H s):∀b∈frs X.stack,b∈X.env.locals::X.fs:=fun b hb=>by
 rcases I.ok.stk with e|⟨e,hf⟩
 ·rw[e]at hb;exact List.mem_cons_of_mem _ hb
 ·rw[e]at hb;unfold frs at hb;rw[List.filterMap_cons,hf]at hb;exact hb
theorem Inv.N7(I:Inv X pins σ H s):∀b∈frs X.stack,H b=none:=fun b hb=>by
 rcases List.mem_cons.mp (I.QD b hb)with e|hb
 ·rw[e];exact I.free
 ·obtain⟨_,o,ho,_⟩:=I.ok.Pk.mem hb;exact I.base.free b o ho (I.ok.Ud b hb) fun z=>I.ok.Sd b z hb
theorem Inv.step{g':Array GenState}{t':Nat}{d':Drawn}{ch:List Addr}(I:Inv X pins σ H s)
  (Uc:∀b∈ch,(b∈X.ex∨X.s₀.heap.objs.size≤b)∧b≠X.env.locals∧(∀x c,X.env.cells.lookup x=some c→c≠b)∧∀p∈X.pn++pins,p.1≠b)
  (keep:∀b o,b≠X.env.locals→b∉X.fs→b∉ch→s.heap.get? b=some o→H b=none→h'.get? b=some o)
  (slot:∀b o,b≠X.env.locals→b∈X.fs→b∉ch→s.heap.get? b=some o→H b=none→∃sl,h'.get? b=some { o with slots:=sl }) (free:∀b o,b∉ch→s.heap.get? b=some o→H b=none→H' b=none)
  (there:∀b o,b∉ch→s.heap.get? b=some o→∃o',h'.get? b=some o')
  (tups:∀b xs,H b=some (.tup xs)→H' b=some (.tup xs)) (MP:∀b o u,H b=some (.QX o u)→H' b=some (.QX o u)) (Ph:∀b ps,H b=some (.U4 ps)→∃more,H' b=some (.U4 (ps++more)))
  (ns:∀m,s.heap.Ns X.env.locals m→h'.Ns X.env.locals m) (hok:Ob X.prog X.w H' h') (hg:AllBare g'):
  Inv X pins σ H' { s with heap:=h',gens:=g',drawn:=d',toks:=t' }:=by
 have T_:∀b o,X.s₀.heap.get? b=some o→b≠X.env.locals:=fun b o e=>Nat.ne_of_lt (Nat.lt_of_lt_of_le (Heap.lt_size e) I.ok.above)
 have Xx:∀b o,X.s₀.heap.get? b=some o→b∉X.ex→b∉ch:=fun b o e hx hb=>by
  rcases(Uc b hb).1 with z|z
  ·exact hx z
  ·exact absurd (Nat.lt_of_lt_of_le (Heap.lt_size e) z) (Nat.lt_irrefl _)
 have cellK:∀x c,X.env.cells.lookup x=some c→∀v,s.heap.IsCell c v→h'.IsCell c v:=fun x c e v ⟨o,ho,hd⟩=>by
  have Wz:c∉ch:=fun z=>(Uc c z).2.2.1 x c e rfl
  by_cases hc:c∈X.fs
  ·obtain⟨sl,q⟩:=slot c o (I.Ve x c e) hc Wz ho (I.Nh x c e);exact⟨_,q,hd⟩
  ·exact⟨o,keep c o (I.Ve x c e) hc Wz ho (I.Nh x c e),hd⟩
 refine⟨I.ok,I.os,hg,⟨fun b o e n hb hx=>?_,fun b o e n hb hx=>?_,fun b o e n hx=>?_,fun b o e hx=>?_,fun b xs e=>tups b xs (I.base.tups b xs e),fun b o xs e=>MP b o xs (I.base.MP b o xs e),fun b ps e=>?_⟩,?_,fun x c e=>?_,?_,fun x c e=>?_,fun p hp=>?_,hok,I.len⟩
 ·exact keep b o (T_ b o e) hb (Xx b o e hx) (I.base.keep b o e n hb hx) (I.base.free b o e n hx)
 ·obtain⟨sl,e1⟩:=I.base.slot b o e n hb hx;obtain⟨SQ,e2⟩:=slot b _ (T_ b o e) hb (Xx b o e hx) e1 (I.base.free b o e n hx);exact⟨SQ,e2⟩
 ·obtain⟨o',e1⟩:=I.base.there b o e hx;exact free b o' (Xx b o e hx) e1 (I.base.free b o e n hx)
 ·obtain⟨o',e1⟩:=I.base.there b o e hx;exact there b o' (Xx b o e hx) e1
 ·obtain⟨m1,e1⟩:=I.base.Ph b ps e;obtain⟨m2,e2⟩:=Ph b _ e1;exact⟨m1++m2,by rw[e2,Array.append_assoc]⟩
 ·obtain⟨m,hn,hl⟩:=I.loc;refine⟨m,ns m hn,fun i x v e1 e2 e3=>?_⟩;obtain⟨u,r,l⟩:=hl i x v e1 e2 e3;refine⟨u,r,?_⟩;rcases l with l|⟨k,c,e,z⟩
  ·exact .inl l
  ·exact .inr ⟨k,c,e,cellK x c e _ z⟩
 ·obtain⟨v,z⟩:=I.cell x c e;exact⟨v,cellK x c e v z⟩
 ·obtain⟨m,⟨o,_,_,ho,_⟩,_⟩:=I.loc;exact free _ o (fun z=>(Uc _ z).2.1 rfl) ho I.free
 ·obtain⟨v,o,ho,hd⟩:=I.cell x c e;exact free c o (fun z=>(Uc c z).2.2.1 x c e rfl) ho (I.Nh x c e)
 ·obtain⟨e,n,ne,nf,d⟩:=I.pin p hp;have Wz:p.1∉ch:=fun z=>(Uc p.1 z).2.2.2 p hp rfl;exact⟨keep p.1 p.2 ne nf Wz e n,free p.1 p.2 Wz e n,ne,nf,d⟩
theorem Inv.un{t':Nat}(I:Inv X pins σ H s)(u:Un X.fs [] H H' s.heap h')(hok:Ob X.prog X.w H' h'):Inv X pins σ H' { s with heap:=h',toks:=t' }:=by
 obtain⟨m,⟨o,es,ep,ho,r⟩,_⟩:=id I.loc;obtain⟨sl,hL⟩:=u.any ho I.free (by simp)
 exact I.step (g':=s.gens) (d':=s.drawn) (ch:=[]) (fun _ z=>nomatch z) (fun b o _ hb _ e n=>u.keep b o e n hb (by simp)) (fun b o _ hb _ e n=>u.slot b o e n hb (by simp)) (fun b o _ e n=>u.free b o e n (by simp)) (fun b o _ e=>u.there b o e (by simp)) u.tups u.MP u.Ph (fun m' hm=>by obtain⟨o',V2,Zv,Uw,r'⟩:=hm;rw[ho]at Uw;cases Uw;exact⟨_,V2,Zv,hL,r'⟩) hok I.bare
theorem Inv.call{g':Array GenState}{t':Nat}{d':Drawn}{ch:List Addr}(I:Inv X pins σ H s)(u:Un (frs X.stack) ch H H' s.heap h')(hok:Ob X.prog X.w H' h')(hg:AllBare g')
  (Uc:∀b∈ch,(b∈X.ex∨X.s₀.heap.objs.size≤b)∧b≠X.env.locals∧(∀x c,X.env.cells.lookup x=some c→c≠b)∧∀p∈X.pn++pins,p.1≠b):
  Inv X pins σ H' { s with heap:=h',gens:=g',drawn:=d',toks:=t' }:=by
 obtain⟨m,⟨o,es,ep,ho,r⟩,_⟩:=id I.loc;obtain⟨sl,hL⟩:=u.any ho I.free fun z=>(Uc _ z).2.1 rfl
 exact I.step (ch:=ch) Uc (fun b o hL hb hc e n=>u.keep b o e n (fun z=>(List.mem_cons.mp (I.QD b z)).elim hL hb) hc) (fun b o _ _ hc e n=>u.any e n hc) (fun b o hc e n=>u.free b o e n hc) (fun b o hc e=>u.there b o e hc) u.tups u.MP u.Ph (fun m' hm=>by obtain⟨o',V2,Zv,Uw,r'⟩:=hm;rw[ho]at Uw;cases Uw;exact⟨_,V2,Zv,hL,r'⟩) hok hg
theorem Inv.turned{t':Nat}{it:Addr}(I:Inv X pins σ H s)(k:∀b o,b≠it→s.heap.get? b=some o→h'.get? b=some o)(hn:H it=none)(hL:it≠X.env.locals)
  (h1:it∈X.ex∨X.s₀.heap.objs.size≤it) (h2:∀x c,X.env.cells.lookup x=some c→c≠it) (h3:∀p∈X.pn++pins,p.1≠it):Inv X pins σ H { s with heap:=h',toks:=t' }:=by
 have nit:∀b u,H b=some u→b≠it:=fun b u e z=>by rw[z,hn]at e;cases e
 refine I.step (g':=s.gens) (d':=s.drawn) (ch:=[it]) (fun b hb=>?_) (fun b o _ _ hc e _=>k b o (fun z=>hc (by simp[z])) e) (fun b o _ _ hc e _=>⟨o.slots,k b o (fun z=>hc (by simp[z])) e⟩) (fun _ _ _ _ n=>n)
  (fun b o hc e=>⟨o,k b o (fun z=>hc (by simp[z])) e⟩) (fun _ _ e=>e) (fun _ _ _ e=>e) (fun b ps e=>⟨#[],by rw[e];simp⟩) (fun m hm=>?_) (fun b u e=>?_) I.bare
 ·have e:b=it:=by simpa using hb
  subst e;exact⟨h1,hL,h2,h3⟩
 ·obtain⟨o,es,ep,ho,r⟩:=hm;exact⟨o,es,ep,k _ o (Ne.symm hL) ho,r⟩
 ·refine(I.hok b u e).stay (fun c v hc q=>k c v ?_ q) (fun _ q=>q) fun _ _ q=>q;rcases hc with z|z
  ·rw[z];exact nit b u e
  ·exact nit c _ z
theorem Inv.tok(I:Inv X pins σ H s)(t:Nat):Inv X pins σ H { s with toks:=t }:=I.un (h':=s.heap) (t':=t) Un.refl I.hok
theorem Inv.kept{t':Nat}(I:Inv X pins σ H s)(k:∀b u,s.heap.get? b=some u→h'.get? b=some u):Inv X pins σ H { s with heap:=h',toks:=t' }:=I.un (Un.kept k) (I.hok.kept k)
theorem Inv.laid{a:Addr}{o:HO}{t':Nat}(I:Inv X pins σ H s)(k:∀b u,s.heap.get? b=some u→h'.get? b=some u)(hp:s.heap.objs.size≤a)(new:bR X.prog X.w (upd H a o) h' a o):
  Inv X pins σ (upd H a o) { s with heap:=h',toks:=t' }:=I.un (Un.laid k hp (I.hok.fresh hp)) (I.hok.laid k hp new)
theorem Inv.write{x e:Addr}{o:HO}{t':Nat}(I:Inv X pins σ H s)(mu:Xh (H x))(he:e=x∨H e=some (.own x))(k:∀b u,b≠e→s.heap.get? b=some u→h'.get? b=some u)(V9:∃u,h'.get? e=some u)
  (new:bR X.prog X.w (upd H x o) h' x o):Inv X pins σ (upd H x o) { s with heap:=h',toks:=t' }:=I.un (Un.write mu he k V9) (I.hok.write mu he k V9 new)
theorem Inv.weak{σ':List (Option V)}(I:Inv X pins σ H s)(hl:σ'.length=σ.length)(w:∀(i:Nat) v,σ'[i]? =some (some v)→σ[i]? =some (some v)):Inv X pins σ' H s:=
 ⟨I.ok,I.os,I.bare,I.base,let⟨m,hn,TF⟩:=I.loc;⟨m,hn,fun i x v e1 e2 e3=>TF i x v e1 (w i v e2) e3⟩,I.cell,I.free,I.Nh,I.pin,I.hok,hl.trans I.len⟩
theorem Inv.Mv{Ml:List (Addr×Obj)}(I:Inv X pins σ H s)(h:∀p∈Ml,s.heap.get? p.1=some p.2∧H p.1=none∧p.1≠X.env.locals∧p.1∉X.fs∧∀v,p.2.data≠.cell v):Inv X Ml σ H s:=
 ⟨I.ok,I.os,I.bare,I.base,I.loc,I.cell,I.free,I.Nh,fun p hp=>(List.mem_append.mp hp).elim (fun z=>I.pin p (List.mem_append_left _ z)) (h p),I.hok,I.len⟩
theorem ul{N:List Str}(hN:N.Nodup){i j:Nat}{x:Str}(a:N[i]? =some x)(b:N[j]? =some x):i=j:=by obtain⟨h1,e1⟩:=List.getElem?_eq_some_iff.mp a;obtain⟨h2,e2⟩:=List.getElem?_eq_some_iff.mp b;exact(List.getElem_inj hN).mp (e1.trans e2.symm)
theorem xZ{M:Model}{A:Around}{E:Value→Shared→Prop}{i:Nat}{x:Str}{v:V}{u:Value}{Q:Unit→Shared→Prop}(I:Inv X pins σ H s)(hN:X.N.Nodup)(hi:X.N[i]? =some x)(hx:Loc X.env.scope x)(r:bB v u)
  (h:∀s',Inv X pins (σ.set i (some v)) H s'→(∃a,Heap.SameBut a s.heap s'.heap∧(a=X.env.locals∨X.env.cells.lookup x=some a))→Q () s') (hf:X.fn x=true∨X.env.scope.names.lookup x=some .local:=by first|exact .inl rfl|exact .inr rfl|assumption):wpAny M A (storeName X.env x u) Q E s:=by
 obtain⟨m,hn,hl⟩:=id I.loc;have Zf:(X.env.scope.kind==.class||(X.env.scope.kind==.module&&X.env.locals !=X.env.globals))=false:=by rw[I.ok.kind];rfl
 have hiσ:i<σ.length:=by rw[I.len];exact(List.getElem?_eq_some_iff.mp hi).1
 have Ve:=I.Ve
 have tracked:∀{a:Addr}{h':Heap},(∃o,s.heap.get? a=some o∧H a=none)→Heap.SameBut a s.heap h'→Ob X.prog X.w H h':=fun{a h'} ha hs b ob e=>by
  obtain⟨_,_,U9⟩:=ha;refine(I.hok b ob e).stay (fun c w' hc q=>(hs.2 c ?_).trans q) (fun _ q=>q) fun _ _ q=>q
  rintro rfl
  rcases hc with rfl|hc
  ·rw[U9]at e;cases e
  ·rw[U9]at hc;cases hc
 rcases hx with hk|hk
 ·refine wpAny_storeName_local hk hn (fun h' hn' hs=>?_) Zf;obtain⟨oL,_,_,hoL,_⟩:=id hn;refine h _ ⟨I.ok,I.os,I.bare,⟨fun b o e n hb hx=>?_,fun b o e n hb hx=>?_,I.base.free,fun b o e hx=>?_,I.base.tups,I.base.MP,I.base.Ph⟩,⟨_,hn',fun j y v' e1 e2 e3=>?_⟩,fun y c e=>?_,I.free,I.Nh,fun p hp=>?_,tracked ⟨oL,hoL,I.free⟩ hs,by simpa using I.len⟩ ⟨_,hs,.inl rfl⟩
  ·exact(hs.2 b (Nat.ne_of_lt (Nat.lt_of_lt_of_le (Heap.lt_size e) I.ok.above))).trans (I.base.keep b o e n hb hx)
  ·obtain⟨sl,e1⟩:=I.base.slot b o e n hb hx;exact⟨sl,(hs.2 b (Nat.ne_of_lt (Nat.lt_of_lt_of_le (Heap.lt_size e) I.ok.above))).trans e1⟩
  ·obtain⟨o',e1⟩:=I.base.there b o e hx;exact⟨o',(hs.2 b (Nat.ne_of_lt (Nat.lt_of_lt_of_le (Heap.lt_size e) I.ok.above))).trans e1⟩
  ·by_cases hj:j=i
   ·subst hj;rw[hi]at e1;cases e1;rw[List.getElem?_set_self hiσ]at e2
    cases e2
    exact⟨u,r,.inl ⟨hk,by simp⟩⟩
   ·rw[List.getElem?_set_ne (Ne.symm hj)]at e2;obtain⟨u',r',q⟩:=hl j y v' e1 e2 e3;refine⟨u',r',?_⟩;rcases q with⟨k,e⟩|⟨k,c,e,z⟩
    ·refine .inl ⟨k,?_⟩;have:y≠x:=fun e=>hj (ul hN e1 (e▸hi));simp[this,e]
    ·exact .inr ⟨k,c,e,z.sameBut hs (Ve y c e)⟩
  ·obtain⟨w',z⟩:=I.cell y c e;exact⟨w',z.sameBut hs (Ve y c e)⟩
  ·obtain⟨e,n,ne,nf,d⟩:=I.pin p hp;exact⟨(hs.2 p.1 ne).trans e,n,ne,nf,d⟩
 ·have S7:X.fn x=true:=by
   rcases hf with z|z
   ·exact z
   ·rw[z]at hk;cases hk
  obtain⟨c,hc⟩:=I.ok.has x (.inl hk);obtain⟨w',z⟩:=I.cell x c hc;refine wpAny_storeName_cell I.ok.kind hk hc z (fun h' VD hs=>?_);obtain⟨oc,hoc,Y0⟩:=id z;refine h { s with heap:=h' } ⟨I.ok,I.os,I.bare,⟨fun b o e n hb hx=>?_,fun b o e n hb hx=>?_,I.base.free,fun b o e hx=>?_,I.base.tups,I.base.MP,I.base.Ph⟩,⟨m,hn.sameBut hs (Ne.symm (Ve x c hc)),fun j y v' e1 e2 e3=>?_⟩,fun y c' e=>?_,I.free,I.Nh,fun p hp=>?_,tracked ⟨oc,hoc,I.Nh x c hc⟩ hs,by simpa using I.len⟩ ⟨c,hs,.inr hc⟩
  ·exact(hs.2 b (Nat.ne_of_lt (Nat.lt_of_lt_of_le (Heap.lt_size e) (I.ok.cab x c S7 hc)))).trans (I.base.keep b o e n hb hx)
  ·obtain⟨sl,e1⟩:=I.base.slot b o e n hb hx;exact⟨sl,(hs.2 b (Nat.ne_of_lt (Nat.lt_of_lt_of_le (Heap.lt_size e) (I.ok.cab x c S7 hc)))).trans e1⟩
  ·obtain⟨o',e1⟩:=I.base.there b o e hx;exact⟨o',(hs.2 b (Nat.ne_of_lt (Nat.lt_of_lt_of_le (Heap.lt_size e) (I.ok.cab x c S7 hc)))).trans e1⟩
  ·by_cases hj:j=i
   ·subst hj;rw[hi]at e1;cases e1;rw[List.getElem?_set_self hiσ]at e2
    cases e2
    exact⟨u,r,.inr ⟨.inl hk,c,hc,VD⟩⟩
   ·rw[List.getElem?_set_ne (Ne.symm hj)]at e2;obtain⟨u',r',q⟩:=hl j y v' e1 e2 e3;refine⟨u',r',?_⟩;rcases q with q|⟨k,c',e,z'⟩
    ·exact .inl q
    ·refine .inr ⟨k,c',e,z'.sameBut hs ?_⟩
     rintro rfl
     exact hj (ul hN e1 (I.ok.inj _ _ _ e hc▸hi))
  ·by_cases Zg:c'=c
   ·subst Zg;exact⟨_,VD⟩
   ·obtain⟨w2,z2⟩:=I.cell y c' e;exact⟨w2,z2.sameBut hs Zg⟩
  ·obtain⟨e,n,ne,nf,d⟩:=I.pin p hp;refine⟨(hs.2 p.1 ?_).trans e,n,ne,nf,d⟩;intro q;rw[q,hoc]at e;have q':oc=p.2:=Option.some.inj e;exact d w' (by rw[← q'];exact Y0)
theorem nP{M:Model}{A:Around}{E:Value→Shared→Prop}{i:Nat}{x:Str}{v:V}{u:Value}{Q:Unit→Shared→Prop}(I:Inv X pins σ H s)(hN:X.N.Nodup)(hi:X.N[i]? =some x)(hx:Loc X.env.scope x)(r:bB v u)
  (h:∀s',Inv X pins (σ.set i (some v)) H s'→Q () s') (hf:X.fn x=true∨X.env.scope.names.lookup x=some .local:=by first|exact .inl rfl|exact .inr rfl|assumption):wpAny M A (storeName X.env x u) Q E s:=
 xZ I hN hi hx r (fun s' I' _=>h s' I') hf
theorem Inv.call'{s':Shared}{ch:List Addr}(I:Inv X pins σ H s)(ho:s'.os=s.os)(u:Un (frs X.stack) ch H H' s.heap s'.heap)(hok:Ob X.prog X.w H' s'.heap)(hg:AllBare s'.gens)
  (Uc:∀b∈ch,(b∈X.ex∨X.s₀.heap.objs.size≤b)∧b≠X.env.locals∧(∀x c,X.env.cells.lookup x=some c→c≠b)∧∀p∈X.pn++pins,p.1≠b):Inv X pins σ H' s':=by
 obtain⟨h',g',d',t',o'⟩:=s';have e:o'=s.os:=ho;subst e;exact I.call (g':=g') (t':=t') (d':=d') u hok hg Uc
end
abbrev XK:=Value→Option Addr→Hp→Prop
abbrev St:=List (Option V)
abbrev VK:=V→Hp→Prop
abbrev TE:=St→Hp→VK→Prop
abbrev TT:=St→Hp→(Bool→Hp→Prop)→Prop
abbrev TA:=St→Hp→(List V→Hp→Prop)→Prop
structure pj where
 nx:St→Hp→Prop
 rt:VK
 bk:St→Hp→Prop:=fun _ _=>False
 ct:St→Hp→Prop:=fun _ _=>False
abbrev TS:=pj→St→Hp→Prop
def EP(X:Cx)(pins:List (Addr×Obj))(σ:St)(Q:VK)(u:Value)(s':Shared):Prop:=∃v H',Inv X pins σ H' s'∧bB v u∧Q v H'
def TP(X:Cx)(pins:List (Addr×Obj))(σ:St)(Q:Bool→Hp→Prop)(b:Bool)(s':Shared):Prop:=∃H',Inv X pins σ H' s'∧Q b H'
def AP(X:Cx)(pins:List (Addr×Obj))(σ:St)(Q:List V→Hp→Prop)(us:List Value)(s':Shared):Prop:=∃vs H',Inv X pins σ H' s'∧bh vs us∧Q vs H'
def SP(X:Cx)(pins:List (Addr×Obj))(D:pj)(f:Flow)(s':Shared):Prop:=
 match f with
 |.next=>∃ σ' H',Inv X pins σ' H' s'∧D.nx σ' H'
 |.brk=>∃ σ' H',Inv X pins σ' H' s'∧D.bk σ' H'
 |.cont=>∃ σ' H',Inv X pins σ' H' s'∧D.ct σ' H'
 |.ret u=>∃v σ' H',Inv X pins σ' H' s'∧bB v u∧D.rt v H'
def PE(X:Cx)(e:Expr)(t:TE):Prop:=
 ∀(pins:List (Addr×Obj))(s:Shared)(σ:St)(H:Hp)(Q:VK),Inv X pins σ H s→t σ H Q→wpAny (model X.prog X.w) X.A (eval e X.env) (EP X pins σ Q) X.xe s
def PT(X:Cx)(e:Expr)(t:TT):Prop:=
 ∀(pins:List (Addr×Obj))(s:Shared)(σ:St)(H:Hp)(Q:Bool→Hp→Prop),Inv X pins σ H s→t σ H Q→wpAny (model X.prog X.w) X.A (isTrue e X.env (eval e X.env)) (TP X pins σ Q) X.xe s
def PW(X:Cx)(e:Expr)(t:TT):Prop:=
 ∀(whole:Sem Value)(pins:List (Addr×Obj))(s:Shared)(σ:St)(H:Hp)(Q:Bool→Hp→Prop),Inv X pins σ H s→t σ H Q→wpAny (model X.prog X.w) X.A (isTrue e X.env whole) (TP X pins σ Q) X.xe s
theorem PW.pt{X:Cx}{e:Expr}{t:TT}(h:PW X e t):PT X e t:=h _
def PA(X:Cx)(es:List Expr)(t:TA):Prop:=
 ∀(pos:Pos)(pins:List (Addr×Obj))(s:Shared)(σ:St)(H:Hp)(Q:List V→Hp→Prop),Inv X pins σ H s→t σ H Q→wpAny (model X.prog X.w) X.A (spliced (backTo pos (starEach es X.env))) (AP X pins σ Q) X.xe s
def PS(X:Cx)(st:Stmt)(t:TS):Prop:=
 ∀(pins:List (Addr×Obj))(s:Shared)(σ:St)(H:Hp)(D:pj),Inv X pins σ H s→t D σ H→wpAny (model X.prog X.w) X.A (exec st X.env) (SP X pins D) X.xe s
def Q0(X:Cx)(st:List Stmt)(t:TS):Prop:=
 ∀(pins:List (Addr×Obj))(s:Shared)(σ:St)(H:Hp)(D:pj),Inv X pins σ H s→t D σ H→wpAny (model X.prog X.w) X.A (execs st X.env) (SP X pins D) X.xe s
theorem J6{α:Type}{t:Sem α}{Q Q':α→Shared→Prop}{M:Model}{A:Around}{E:Value→Shared→Prop}{s:Shared}(h:wpAny M A t Q E s)(hQ:∀a s,Q a s→Q' a s):wpAny M A t Q' E s:=wpAny_mono h hQ fun _ _ x=>x
section
variable{X:Cx}
noncomputable def Cq(i:Nat):TE:=fun σ H Q=>∃v,σ[i]? =some (some v)∧Q v H
noncomputable def tC(v:V):TE:=fun _ H Q=>Q v H
abbrev sE0(X:Cx)(e:Expr)(es:List Expr):Prop:=starEach (e::es) X.env=(false,eval e X.env)::starEach es X.env
abbrev sP0(X:Cx)(es:List Expr)(pos:Pos):Prop:=(backTo pos (starEach es X.env)).any (·.1)=false
abbrev nD0(x:Str):Prop:=(x==("__debug__":Str))=false
theorem vB{i:Nat}{x:Str}{pos:Pos}(hN:X.N[i]? =some x)(hv:Xd X.env.scope x)(hd:nD0 x:=by decide)(Qw:(x==("__classdict__":Str))=false:=by decide):PE X (.Name x pos) (Cq i):=by
 intro pins s σ H Q I h;obtain⟨v,e,h⟩:=h;obtain⟨m,hn,hl⟩:=I.loc;obtain⟨u,r,l⟩:=hl i x v hN e hv;have fin:EP X pins σ Q u s:=⟨v,H,I,r,h⟩
 rcases l with⟨hk,hm⟩|⟨hk,c,hc,hcell⟩
 ·exact wpAny_Name (wpAny_loadName_local I.ok.kind hk hn hm fin) hd
 ·rcases hk with hk|hk
  ·exact wpAny_Name (wpAny_loadName_cell I.ok.kind hk hc hcell fin) hd
  ·exact wpAny_Name (wpAny_loadName_free I.ok.kind hk hc hcell fin Qw) hd
theorem Gc{i j pos}:PE X (.Constant (.int i) j pos) (tC (.int i)):=fun _ _ _ H _ I h=>wpAny_Constant_int ⟨.int i,H,I.tok _,⟨_,rfl⟩,h⟩
theorem HW{b j pos}:PE X (.Constant (.bool b) j pos) (tC (.bl b)):=fun _ _ _ H _ I h=>Constant_bool ⟨.bl b,H,I,rfl,h⟩
theorem Gb{j pos}:PE X (.Constant .none j pos) (tC .non):=fun _ _ _ H _ I h=>Constant_none ⟨.non,H,I,rfl,h⟩
theorem FZ{x j pos}:PE X (.Constant (.str x) j pos) (tC (.str x)):=fun _ _ _ H _ I h=>Calls.Constant_str ⟨.str x,H,I.tok _,⟨_,rfl⟩,h⟩
def Gl(X:Cx)(x:Str):Prop:=X.env.kindOf x=some .globalImplicit
theorem nA{E:Value→Shared→Prop}{pins:List (Addr×Obj)}{s:Shared}{σ:St}{H:Hp}{x:Str}{u:Value}{pos:Pos}{Q:Value→Shared→Prop}(I:Inv X pins σ H s)(hg:Gl X x)(hm:X.mg x=some u)(h:Q u s)
  (hd:nD0 x:=by decide):wpAny (model X.prog X.w) X.A (eval (.Name x pos) X.env) Q E s:=
 Calls.Name_function_global I.ok.kind hg (Calls.loadGlobal_global (by rw[I.ok.glob];exact I.mod.glob.keeps I.bk) hm h) hd
theorem ig{E:Value→Shared→Prop}{pins:List (Addr×Obj)}{s:Shared}{σ:St}{H:Hp}{x:Str}{u:Value}{pos:Pos}{Q:Value→Shared→Prop}(I:Inv X pins σ H s)(hg:Gl X x)(hm:X.mg x=none)(hv:bootBuiltins x=some u)(h:Q u s)
  (hn:x≠"__name__":=by decide) (hd:nD0 x:=by decide):wpAny (model X.prog X.w) X.A (eval (.Name x pos) X.env) Q E s:=by
 obtain⟨mb,h1,h2⟩:=I.mod.blt;exact Calls.Name_function_global I.ok.kind hg (Calls.loadGlobal_builtin (by rw[I.ok.glob];exact I.mod.glob.keeps I.bk) hm (by rw[I.ok.blt];exact h1.keeps I.bk) ((h2 x hn).trans hv) h) hd
theorem rB{x:Str}{v:V}{u:Value}{pos:Pos}(hg:Gl X x)(hm:X.mg x=some u)(r:bB v u)(hd:nD0 x:=by decide):PE X (.Name x pos) (tC v):=
 fun _ _ _ H _ I h=>nA I hg hm ⟨v,H,I,r,h⟩ hd
theorem Df{x:Str}{v:V}{u:Value}{pos:Pos}(hg:Gl X x)(hm:X.mg x=none)(hv:bootBuiltins x=some u)(r:bB v u)(hn:x≠"__name__":=by decide)(hd:nD0 x:=by decide):PE X (.Name x pos) (tC v):=
 fun _ _ _ H _ I h=>ig I hg hm hv ⟨v,H,I,r,h⟩ hn hd
variable{a b:Expr}{ta tb:TE}{pos:Pos}
variable{tA Xo:TT}{rest:List Expr}
noncomputable def JA(t u:TT):TT:=fun σ H Q=>t σ H fun c H1=>if c=true then u σ H1 Q else Q false H1
noncomputable def tOr(t u:TT):TT:=fun σ H Q=>t σ H fun c H1=>if c=true then Q true H1 else u σ H1 Q
noncomputable def Jv(t:TT):TT:=fun σ H Q=>t σ H fun c H1=>Q (!c) H1
theorem CN(ha:PT X a tA):PW X (.BoolOp .And [a] pos) tA:=by
 intro wh pins s σ H Q I h;refine isTrue_and (J6 (ha pins s σ H Q I h) fun c s1 e=>?_)
 cases c with
 |true=>exact isTrue_and_nil e
 |false=>exact e
theorem FI(ha:PT X a tA):PW X (.BoolOp .Or [a] pos) tA:=by
 intro wh pins s σ H Q I h;refine isTrue_or (J6 (ha pins s σ H Q I h) fun c s1 e=>?_)
 cases c with
 |false=>exact isTrue_or_nil e
 |true=>exact e
theorem FJ(ha:PT X a tA)(hb:PW X (.BoolOp .And (b::rest) pos) Xo):PW X (.BoolOp .And (a::b::rest) pos) (JA tA Xo):=by
 intro wh pins s σ H Q I h;refine isTrue_and (J6 (ha pins s σ H _ I h) ?_);rintro c s1 ⟨H1,I1,q1⟩
 cases c with
 |true=>exact hb wh pins s1 σ H1 Q I1 q1
 |false=>exact⟨H1,I1,q1⟩
theorem HN(ha:PT X a tA)(hb:PW X (.BoolOp .Or (b::rest) pos) Xo):PW X (.BoolOp .Or (a::b::rest) pos) (tOr tA Xo):=by
 intro wh pins s σ H Q I h;refine isTrue_or (J6 (ha pins s σ H _ I h) ?_);rintro c s1 ⟨H1,I1,q1⟩
 cases c with
 |true=>exact⟨H1,I1,q1⟩
 |false=>exact hb wh pins s1 σ H1 Q I1 q1
theorem FK(ha:PT X a tA):PT X (.UnaryOp .Not a pos) (Jv tA):=by intro pins s σ H Q I h;exact isTrue_not (ha pins s σ H (fun c H1=>Q (!c) H1) I h)
noncomputable def Hs(ta tb:TE):TE:=fun σ H Q=>ta σ H fun x H1=>∃c,x=.bl c∧if c=true then tb σ H1 Q else Q (.bl false) H1
noncomputable def Ju(ta tb:TE):TE:=fun σ H Q=>ta σ H fun x H1=>∃c,x=.bl c∧if c=true then Q (.bl true) H1 else tb σ H1 Q
theorem Ga{op}{t:TE}(h:PE X a t):PE X (.BoolOp op [a] pos) t:=fun pins s σ H Q I hw=>BoolOp_one (h pins s σ H Q I hw)
theorem Gd(ha:PE X a ta)(hb:PE X (.BoolOp .And (b::rest) pos) tb):PE X (.BoolOp .And (a::b::rest) pos) (Hs ta tb):=by
 intro pins s σ H Q I h;refine BoolOp_and (J6 (ha pins s σ H _ I h) ?_);rintro v s1 ⟨x,H1,I1,r1,q1⟩;obtain⟨c,rfl,q1⟩:=q1
 cases r1
 refine wpAny_truthy_bool ?_
 cases c with
 |true=>exact hb pins s1 σ H1 Q I1 q1
 |false=>exact⟨.bl false,H1,I1,rfl,q1⟩
theorem HR(ha:PE X a ta)(hb:PE X (.BoolOp .Or (b::rest) pos) tb):PE X (.BoolOp .Or (a::b::rest) pos) (Ju ta tb):=by
 intro pins s σ H Q I h;refine BoolOp_or (J6 (ha pins s σ H _ I h) ?_);rintro v s1 ⟨x,H1,I1,r1,q1⟩;obtain⟨c,rfl,q1⟩:=q1
 cases r1
 refine wpAny_truthy_bool ?_
 cases c with
 |false=>exact hb pins s1 σ H1 Q I1 q1
 |true=>exact⟨.bl true,H1,I1,rfl,q1⟩
noncomputable def tIf(t:TT)(ta tb:TE):TE:=fun σ H Q=>t σ H fun c H1=>if c=true then ta σ H1 Q else tb σ H1 Q
theorem AA{c:Expr}(hc:PT X c tA)(ha:PE X a ta)(hb:PE X b tb):PE X (.IfExp c a b pos) (tIf tA ta tb):=by
 intro pins s σ H Q I h;refine wpAny_IfExp (J6 (hc pins s σ H _ I h) ?_);rintro d s1 ⟨H1,I1,q1⟩
 cases d with
 |true=>exact ha pins s1 σ H1 Q I1 q1
 |false=>exact hb pins s1 σ H1 Q I1 q1
end
def M_(K:W.Frag)(H:Hp)(a:Addr)(xs:List V):Prop:=
 Rd H a (.lst xs)∨
  ∃(o:Obj)(its:Array Value)(n:Nat),K.lookup a=some o∧o.cls=.type "list"∧o.dict=none∧o.data=.seq its n∧its.size≤sizeLine∧bh xs its.toList
def NP(K:W.Frag)(H:Hp)(a:Addr)(xs:List V):Prop:=
 Rd H a (.tup xs)∨
  ∃(o:Obj)(its:Array Value)(n:Nat),K.lookup a=some o∧o.cls=.type "tuple"∧o.data=.seq its n∧its.size≤sizeLine∧bh xs its.toList
noncomputable def KR:Value→Option V
 |.none=>some .non
 |.bool b=>some (.bl b)
 |.int i _=>some (.int i)
 |.str x _=>some (.str x)
 |.bytes b _=>some (.Wb b)
 |.float b _=>some (.flt b)
 |.ref a=>some (.ref a)
 |.type n=>some (.ty n)
 |_=>none
theorem bB.abs{x:V}{u:Value}(r:bB x u):KR u=some x:=by
 cases x with
 |non=>cases r;rfl
 |bl _=>cases r;rfl
 |int _=>obtain⟨t,rfl⟩:=r;rfl
 |str _=>obtain⟨t,rfl⟩:=r;rfl
 |Wb _=>obtain⟨t,rfl⟩:=r;rfl
 |flt _=>obtain⟨t,rfl⟩:=r;rfl
 |ref _=>cases r;rfl
 |ty _=>cases r;rfl
theorem bB.inj{x y:V}{u:Value}(r:bB x u)(q:bB y u):x=y:=Option.some.inj (r.abs.symm.trans q.abs)
theorem bh.inj:∀{xs ys:List V}{us:List Value},bh xs us→bh ys us→xs=ys
 |_,_,_,.nil,.nil=>rfl
 |_,_,_,.cons r t,.cons r' t'=>by rw[r.inj r',bh.inj t t']
section
variable{X:Cx}{pins:List (Addr×Obj)}{σ:St}{H:Hp}{s:Shared}{a:Addr}{xs ys:List V}
theorem M_.of{K:W.Frag}(h:H a=some (.lst xs)):M_ K H a xs:=.inl (.inl h)
theorem NP.of{K:W.Frag}(h:H a=some (.tup xs)):NP K H a xs:=.inl (.inl h)
theorem Inv.list(I:Inv X pins σ H s)(h:M_ X.K H a xs):∃its:List Value,bh xs its∧PlainL s.heap a its.toArray∧xs.length≤sizeLine:=by
 rcases h with h|⟨o,its,n,hk,hc,hd,hs,hz,r⟩
 ·obtain⟨z,its,n,r,e⟩:=h.ok I.hok;exact⟨its,r,⟨_,n,e,rfl,rfl,rfl⟩,z⟩
 ·refine⟨its.toList,r,⟨o,n,I.Qq a o hk,hc,hd,by simpa using hs⟩,?_⟩;have e:=r.length;simp only[Array.length_toList]at e;omega
theorem Inv.tuple(I:Inv X pins σ H s)(h:NP X.K H a xs):∃its:List Value,bh xs its∧IsTup s.heap a its.toArray∧xs.length≤sizeLine:=by
 rcases h with h|⟨o,its,n,hk,hc,hs,hz,r⟩
 ·obtain⟨z,its,r,p⟩:=h.ok I.hok;exact⟨its,r,p,z⟩
 ·refine⟨its.toList,r,⟨o,I.Qq a o hk,hc,n,by simpa using hs⟩,?_⟩;have e:=r.length;simp only[Array.length_toList]at e;omega
theorem Inv.Rq(I:Inv X pins σ H s)(h:M_ X.K H a xs)(h':M_ X.K H a ys):xs=ys:=by
 obtain⟨its,r,⟨o,n,e,_,_,d⟩,_⟩:=I.list h;obtain⟨Qe,r',⟨o',n',e',_,_,d'⟩,_⟩:=I.list h';rw[e]at e';cases e';rw[d]at d';injection d' with d1 _
 have:its=Qe:=by simpa using congrArg Array.toList d1
 subst this;exact r.inj r'
theorem Inv.Q5(I:Inv X pins σ H s)(h:NP X.K H a xs)(h':NP X.K H a ys):xs=ys:=by
 obtain⟨its,r,⟨o,e,_,n,d⟩,_⟩:=I.tuple h;obtain⟨Qe,r',⟨o',e',_,n',d'⟩,_⟩:=I.tuple h';rw[e]at e';cases e';rw[d]at d';injection d' with d1 _
 have:its=Qe:=by simpa using congrArg Array.toList d1
 subst this;exact r.inj r'
end
abbrev Cx.wish(X:Cx)(E:Value→Shared→Prop):Cx:={ X with xe:=E }
abbrev Cx.U7(X:Cx):Cx:=X.wish fun _ _=>False
theorem Cx.Ok.wish{X:Cx}(ok:X.Ok)(E:Value→Shared→Prop):(X.wish E).Ok:=
 ⟨ok.mod,ok.kind,ok.glob,ok.blt,ok.above,ok.inj,ok.has,ok.cab,ok.hd,ok.frames,ok.stk,ok.W8,ok.bs,ok.Tg,ok.Rm,ok.Sd,ok.Pk,ok.Ud⟩
theorem Cx.Ok.Ol{X:Cx}{E:Value→Shared→Prop}(ok:(X.wish E).Ok):X.Ok:=
 ⟨ok.mod,ok.kind,ok.glob,ok.blt,ok.above,ok.inj,ok.has,ok.cab,ok.hd,ok.frames,ok.stk,ok.W8,ok.bs,ok.Tg,ok.Rm,ok.Sd,ok.Pk,ok.Ud⟩
section
variable{X:Cx}{pins:List (Addr×Obj)}{σ:St}{H:Hp}{s:Shared}{E:Value→Shared→Prop}
theorem Inv.wish(I:Inv X pins σ H s)(E:Value→Shared→Prop):Inv (X.wish E) pins σ H s:=⟨I.ok.wish E,I.os,I.bare,I.base,I.loc,I.cell,I.free,I.Nh,I.pin,I.hok,I.len⟩
theorem Inv.Ol(I:Inv (X.wish E) pins σ H s):Inv X pins σ H s:=⟨I.ok.Ol,I.os,I.bare,I.base,I.loc,I.cell,I.free,I.Nh,I.pin,I.hok,I.len⟩
theorem SP.Ol{D:pj}{f:Flow}{s':Shared}(h:SP (X.wish E) pins D f s'):SP X pins D f s':=by
 cases f with
 |next=>obtain⟨σ',H',I,q⟩:=h;exact⟨σ',H',I.Ol,q⟩
 |brk=>obtain⟨σ',H',I,q⟩:=h;exact⟨σ',H',I.Ol,q⟩
 |cont=>obtain⟨σ',H',I,q⟩:=h;exact⟨σ',H',I.Ol,q⟩
 |ret u=>obtain⟨v,σ',H',I,r,q⟩:=h;exact⟨v,σ',H',I.Ol,r,q⟩
theorem Q0.U7{st:List Stmt}{t:TS}(h:Q0 X.U7 st t):Q0 X st t:=fun pins s σ H D I hw=>wpAny_mono (h pins s σ H D (I.wish _) hw) (fun _ _ q=>q.Ol) fun _ _ z=>False.elim z
end
section
variable{X:Cx}{st:Stmt}{rest:List Stmt}{t u:TS}{e:Expr}{te:TE}{pos:Pos}
noncomputable def Hl:TS:=fun D σ H=>D.nx σ H
noncomputable def Js(t u:TS):TS:=fun D σ H=>t { D with nx:=u D } σ H
theorem CQ:Q0 X [] Hl:=fun _ _ σ H _ I h=>wpAny_execs_nil ⟨σ,H,I,h⟩
theorem Af(h1:PS X st t)(h2:Q0 X rest u):Q0 X (st::rest) (Js t u):=by
 intro pins s σ H D I h;refine wpAny_execs_cons (J6 (h1 pins s σ H { D with nx:=u D } I h) fun f s1 q=>?_)
 cases f with
 |next=>obtain⟨σ',H',I',q⟩:=q;exact h2 pins s1 σ' H' D I' q
 |ret v=>exact q
 |brk=>exact q
 |cont=>exact q
theorem wY(h1:PS X st t):Q0 X [st] t:=by
 intro pins s σ H D I h;refine wpAny_execs_cons (J6 (h1 pins s σ H D I h) fun f s1 q=>?_)
 cases f with
 |next=>exact wpAny_execs_nil q
 |ret v=>exact q
 |brk=>exact q
 |cont=>exact q
theorem Inv.quiet{pins:List (Addr×Obj)}{σ:St}{H:Hp}{s:Shared}(I:Inv X pins σ H s):interactive X.env=false:=by simp[interactive,I.ok.kind]
noncomputable def Hm(te:TE):TS:=fun D σ H=>te σ H fun _ H1=>D.nx σ H1
theorem CU(he:PE X e te)(hs:swapsWith e none pos.line X.env=pure false:=by rfl):PS X (.Expr e pos) (Hm te):=by intro pins s σ H D I h;exact wpAny_Expr_any (J6 (he pins s σ H _ I h) (by rintro v s1 ⟨x,H1,I1,r1,q1⟩;exact ⟨σ,H1,I1,q1⟩)) I.quiet hs
noncomputable def Jt(te:TE):TS:=fun D σ H=>te σ H D.rt
theorem FO(he:PE X e te):PS X (.Return (some e) pos) (Jt te):=by intro pins s σ H D I h;exact wpAny_Return_some (J6 (he pins s σ H _ I h) (by rintro v s1 ⟨x,H1,I1,r1,q1⟩;exact ⟨x,σ,H1,I1,r1,q1⟩))
noncomputable def Hj:TS:=fun D _ H=>D.rt .non H
theorem CT:PS X (.Return none pos) Hj:=fun _ _ σ H _ I h=>wpAny_Return_none ⟨.non,σ,H,I,rfl,h⟩
noncomputable def Jy(c:TT)(t u:TS):TS:=fun D σ H=>c σ H fun b H1=>if b=true then t D σ H1 else u D σ H1
theorem HP{c:Expr}{a b:List Stmt}{tc:TT}(hc:PT X c tc)(ha:Q0 X a t)(hb:Q0 X b u):PS X (.If c a b pos) (Jy tc t u):=by
 intro pins s σ H D I h;refine wpAny_If (J6 (hc pins s σ H _ I h) ?_);rintro d s1 ⟨H1,I1,q1⟩
 cases d with
 |true=>exact ha pins s1 σ H1 D I1 q1
 |false=>exact hb pins s1 σ H1 D I1 q1
end
abbrev TG:=V→St→Hp→(St→Hp→Prop)→Prop
abbrev Vg:=List V→St→Hp→(St→Hp→Prop)→Prop
def PG(X:Cx)(target:Expr)(t:TG):Prop:=
 ∀(pins:List (Addr×Obj))(s:Shared)(σ:St)(H:Hp)(v:V)(u:Value)(Q:St→Hp→Prop),Inv X pins σ H s→bB v u→t v σ H Q→
  wpAny (model X.prog X.w) X.A (assign target X.env u) (fun _ s'=>∃ σ' H',Inv X pins σ' H' s'∧Q σ' H') X.xe s
def Ui(X:Cx)(ts:List Expr)(t:Vg):Prop:=
 ∀(pins:List (Addr×Obj))(s:Shared)(σ:St)(H:Hp)(vs:List V)(us:List Value)(Q:St→Hp→Prop),Inv X pins σ H s→bh vs us→t vs σ H Q→
  wpAny (model X.prog X.w) X.A (assignInOrder ((assignEach ts X.env).map (·.2)) us) (fun _ s'=>∃ σ' H',Inv X pins σ' H' s'∧Q σ' H') X.xe s
abbrev GU:=V→V→V→Hp→(Hp→Prop)→Prop
def IO(X:Cx)(t:GU):Prop:=
 ∀(pins:List (Addr×Obj))(s:Shared)(σ:St)(H:Hp)(o i v:V)(ov iv u:Value)(Q:Hp→Prop),Inv X pins σ H s→bB o ov→bB i iv→bB v u→t o i v H Q→
  wpAny (model X.prog X.w) X.A (setItem ov iv u) (fun _ s'=>∃H',Inv X pins σ H' s'∧Q H') X.xe s
section
variable{X:Cx}{pos:Pos}
noncomputable def xw(i:Nat):TG:=fun v σ H Q=>Q (σ.set i (some v)) H
theorem ny{i:Nat}{x:Str}(hN:X.N.Nodup)(hi:X.N[i]? =some x)(hx:Loc X.env.scope x)(hf:X.fn x=true∨X.env.scope.names.lookup x=some .local:=by first|exact .inl rfl|exact .inr rfl|assumption):PG X (.Name x pos) (xw i):=by intro pins s σ H v u Q I r h;exact wpAny_assign_Name (nP I hN hi hx r (fun s' I'=>⟨_,H,I',h⟩) hf)
noncomputable def Ky:Vg:=fun vs σ H Q=>vs= []∧Q σ H
noncomputable def IB(t:TG)(u:Vg):Vg:=fun vs σ H Q=>∃v r,vs=v::r∧t v σ H fun σ' H'=>u r σ' H' Q
theorem Db:Ui X [] Ky:=by
 intro pins s σ H vs us Q I r h;obtain⟨e,h⟩:=h;subst e
 cases r
 exact assignInOrder_nil ⟨σ,H,I,h⟩
theorem Aw{e:Expr}{es:List Expr}{t:TG}{u:Vg}(h1:PG X e t)(h2:Ui X es u)
  (hs:(assignEach (e::es) X.env).map (·.2)=assign e X.env::(assignEach es X.env).map (·.2):=by rfl):Ui X (e::es) (IB t u):=by
 intro pins s σ H vs us Q I r h;obtain⟨v,vr,e1,h⟩:=h;subst e1
 cases r with
 |cons r rr=>rw[hs];refine assignInOrder_cons (J6 (h1 pins s σ H _ _ _ I r h) ?_);rintro _ s1 ⟨σ1,H1,I1,q1⟩;exact h2 pins s1 σ1 H1 _ _ Q I1 rr q1
noncomputable def Kw(K:W.Frag)(n:Nat)(t:Vg):TG:=fun v σ H Q=>∃a xs,v=.ref a∧NP K H a xs∧xs.length=n∧t xs σ H Q
theorem FU{es:List Expr}{k:Nat}{t:Vg}{n:Nat}(hc:X.calm=true)(h:Ui X es t)
  (hn:(assignEach es X.env).length=n:=by rfl) (YT:(assignEach es X.env).findIdx? (·.1)=none:=by rfl):PG X (.Tuple es k pos) (Kw X.K n t):=by
 intro pins s σ H v u Q I r hw;obtain⟨a,xs,e1,hq,hl,hw⟩:=hw;subst e1
 cases r
 obtain⟨its,rv,ht,hz⟩:=I.tuple hq;refine assign_Tuple_tuple (I.ok.hd hc) ht (by simp[hn,← hl,rv.length]) YT fun h' hx=>?_;have I1:Inv X pins σ H { s with heap:=h' }:=I.kept (t':=s.toks) fun b o e=>hx b o (Nat.ne_of_lt (Heap.lt_size e)) e;exact h pins _ σ H xs _ Q I1 (by simpa using rv) hw
noncomputable def Kx(to ti:TE)(t:GU):TG:=fun v σ H Q=>to σ H fun o H1=>ti σ H1 fun i H2=>t o i v H2 fun H3=>Q σ H3
theorem FV{o i:Expr}{to ti:TE}{t:GU}(ho:PE X o to)(hi:PE X i ti)(hs:IO X t)
  (ha:∀v,assign (.Subscript o i pos) X.env v=(do
   let ov ← holding [v] (eval o X.env)
   let iv ← holding [v,ov] (eval i X.env)
   standAt pos
   holding [v,ov,iv] (setItem ov iv v)
   release [v,ov,iv] []):=by intro _;rfl):PG X (.Subscript o i pos) (Kx to ti t):=by
 intro pins s σ H v u Q I r h;rw[ha];refine wpAny_bind (wpAny_holding (J6 (ho pins s σ H _ I h) ?_));rintro ov s1 ⟨x,H1,I1,r1,q1⟩;refine wpAny_bind (wpAny_holding (J6 (hi pins s1 σ H1 _ I1 q1) ?_));rintro iv s2 ⟨y,H2,I2,r2,q2⟩;refine wpAny_bind (wpAny_standAt (wpAny_bind (wpAny_holding (J6 (hs pins s2 σ H2 x y v ov iv u _ I2 r1 r2 r q2) ?_))));rintro _ s3 ⟨H3,I3,q3⟩;exact wpAny_release ⟨σ,H3,I3,q3⟩
noncomputable def Hr(te:TE)(g:TG):TS:=fun D σ H=>te σ H fun x H1=>g x σ H1 D.nx
theorem Ah{tg e:Expr}{te:TE}{g:TG}(he:PE X e te)(hg:PG X tg g)(hs:swapsWithSole [tg] e pos.line X.env=pure false:=by rfl)(hw:swappedStores [tg] e X.env=pure none:=by rfl)
  (h1:(assignEach [tg] X.env).map (·.2)=[assign tg X.env]:=by rfl):PS X (.Assign [tg] e pos) (Hr te g):=by
 intro pins s σ H D I h;refine wpAny_Assign_stores (J6 (he pins s σ H _ I h) ?_) hs hw;rintro v s1 ⟨x,H1,I1,r1,q1⟩;rw[h1];exact J6 (hg pins s1 σ H1 x v _ I1 r1 q1) fun _ s2 q=>q
theorem FN{i:Nat}{x:Str}{e:Expr}{te:TE}{pos':Pos}(hN:X.N.Nodup)(hi:X.N[i]? =some x)(hx:Loc X.env.scope x)(he:PE X e te)(hs:swapsWith e (some (.Name x pos')) pos.line X.env=pure false:=by rfl)(hf:X.fn x=true∨X.env.scope.names.lookup x=some .local:=by first|exact .inl rfl|exact .inr rfl|assumption):
  PS X (.Assign [.Name x pos'] e pos) (Hr te (xw i)):=by
 intro pins s σ H D I h;refine wpAny_Assign_Name (J6 (he pins s σ H _ I h) ?_) hs;rintro v s1 ⟨y,H1,I1,r1,q1⟩;exact nP I1 hN hi hx r1 (fun s2 I2=>⟨_,H1,I2,q1⟩) hf
end
structure It where
 go:Nat→Hp→Prop
 Vi:Nat→Hp→V→Hp→Prop
 stop:Nat→Hp→Prop
def kh(X:Cx)(pins:List (Addr×Obj))(H:Hp)(b:Addr):Prop:=
 H b=none∧b≠X.env.locals∧b∉X.fs∧(b∈X.ex∨X.s₀.heap.objs.size≤b)∧(∀x c,X.env.cells.lookup x=some c→c≠b)∧∀p∈X.pn++pins,p.1≠b
theorem Inv.R_{X:Cx}{pins:List (Addr×Obj)}{σ:St}{H H':Hp}{s:Shared}{b:Addr}(I:Inv X pins σ H s)(hb:s.heap.objs.size≤b)(hn:H' b=none):kh X pins H' b:=by
 refine⟨hn,Nat.ne_of_gt (Nat.lt_of_lt_of_le I.lt hb),I.Ww hb,.inr (Nat.le_trans I.sz hb),fun x c e z=>?_,fun p hp z=>?_⟩
 ·obtain⟨v,q⟩:=I.cell x c e;exact absurd (Nat.lt_of_lt_of_le q.lt (by rw[z];exact hb)) (Nat.lt_irrefl _)
 ·exact absurd (Nat.lt_of_lt_of_le (Heap.lt_size (I.pin p hp).1) (by rw[z];exact hb)) (Nat.lt_irrefl _)
structure zg(P:Program)(w:World)(K:W.Frag)(tg:Expr)(J:It)(fp:List Addr)(it:Addr)(tn:Nat→Heap→Prop):Prop where
 mem:it∈fp
 obj:∀i h,tn i h→∀b∈fp,∃o,h.get? b=some o∧∀v,o.data≠.cell v
 keep:∀i h h',tn i h→(∀b∈fp,∀o,h.get? b=some o→h'.get? b=some o)→tn i h'
 item:∀(X:Cx),X.prog=P→X.w=w→X.K=K→X.calm=true→∀(i:Nat)(pins:List (Addr×Obj))(s:Shared)(σ:St)(H:Hp)(E:Value→Shared→Prop),Inv X pins σ H s→(∀b∈fp,kh X pins H b)→tn i s.heap→J.go i H→
  wpAny (model P w) X.A (pyNext (.ref it)) (fun r s1=>∃u,r=some u∧
   wpAny (model P w) X.A (letOwnedTupleGo tg (.ref it) u) (fun _ s2=>∃x H',Inv X pins σ H' s2∧bB x u∧J.Vi i H x H'∧tn (i+1) s2.heap∧∀b∈fp,H' b=none) E s1) E s
 done:∀(X:Cx),X.prog=P→X.w=w→X.K=K→X.calm=true→∀(i:Nat)(pins:List (Addr×Obj))(s:Shared)(σ:St)(H:Hp)(E:Value→Shared→Prop),Inv X pins σ H s→(∀b∈fp,kh X pins H b)→tn i s.heap→J.stop i H→
  wpAny (model P w) X.A (pyNext (.ref it)) (fun r s1=>r=none∧Inv X pins σ H s1) E s
 self:∀(A:Around)(i:Nat)(s:Shared)(Q:Value→Shared→Prop)(E:Value→Shared→Prop),tn i s.heap→Q (.ref it) s→wpAny (model P w) A (pyIter (.ref it)) Q E s
abbrev TI:=St→Hp→(It→Hp→Prop)→Prop
def PIE(X:Cx)(pins:List (Addr×Obj))(σ:St)(tg:Expr)(R:It→Hp→Prop)(XF:Value)(s2:Shared):Prop:=
 ∃(it:Addr)(fp:List Addr)(tn:Nat→Heap→Prop)(J:It)(H':Hp),XF=.ref it∧Inv X pins σ H' s2∧zg X.prog X.w X.K tg J fp it tn∧tn 0 s2.heap∧(∀b∈fp,kh X pins H' b)∧R J H'
def PI(X:Cx)(tg iter:Expr)(wi:TI):Prop:=
 ∀(pins:List (Addr×Obj))(s:Shared)(σ:St)(H:Hp)(R:It→Hp→Prop),Inv X pins σ H s→wi σ H R→
  wpAny (model X.prog X.w) X.A (eval iter X.env) (fun v s1=>wpAny (model X.prog X.w) X.A (pyIter v) (PIE X pins σ tg R) X.xe s1) X.xe s
theorem xv{M:Model}{A:Around}{E:Value→Shared→Prop}{s:Shared}{tg:Expr}{it:Addr}{u:Value}{o:Obj}{n:String}{vs:Array Value}{Q:Unit→Shared→Prop}(ho:s.heap.get? it=some o)(hc:o.cls=.type n)(hd:o.data=.fields vs)
    (hn: ["enumerate","zip","dict_itemiterator","dict_reverseitemiterator","odict_iterator","itertools.zip_longest","itertools.pairwise"].contains n=false) (hQ:Q () s):wpAny M A (letOwnedTupleGo tg (.ref it) u) Q E s:=by
  unfold letOwnedTupleGo
  cases tg<;>first
    |exact wpAny_pure hQ
    |(cases u<;>first
      |exact wpAny_pure hQ
      |(refine wpAny_bind (wpAny_load ho ?_)
        rw[hc,hd];show wpAny M A (if(["enumerate","zip","dict_itemiterator","dict_reverseitemiterator","odict_iterator","itertools.zip_longest","itertools.pairwise"].contains n&&vs[0]? ==some (rawInt _))=true then _ else _) Q E s;rw[if_neg (by intro h;rw[hn,Bool.false_and]at h;cases h)];exact wpAny_pure hQ))
noncomputable def Z1(K:W.Frag)(a:Addr):It:=
 ⟨fun i H=>∃xs x,M_ K H a xs∧xs[i]? =some x,fun i H x H'=>H'=H∧∀xs,M_ K H a xs→xs[i]? =some x,fun i H=>∃xs,M_ K H a xs∧xs.length≤i⟩
noncomputable def Z0(K:W.Frag)(a:Addr):It:=
 ⟨fun i H=>∃xs x,NP K H a xs∧xs[i]? =some x,fun i H x H'=>H'=H∧∀xs,NP K H a xs→xs[i]? =some x,fun i H=>∃xs,NP K H a xs∧xs.length≤i⟩
noncomputable def Ye(lo:Int)(n:Nat):It:=⟨fun i _=>i<n,fun i H x H'=>H'=H∧x=.int (lo+i),fun i _=>n≤i⟩
theorem xU{P:Program}{w:World}{K:W.Frag}{tg:Expr}(a it:Addr):zg P w K tg (Z1 K a) [it] it (fun i h=>h.IsListIter it a i) where
 mem:=by simp
 obj:=fun i h st b hb=>by
  have e:b=it:=by simpa using hb
  subst e;obtain⟨o,e,c,d⟩:=st;exact⟨o,e,fun v z=>by rw[d]at z;cases z⟩
 keep:=fun i h h' st k=>st.at fun o e=>k it (by simp) o e
 item:=by intro X hP hw hK hc i pins s σ H E I hf st hg;subst hP hw hK;obtain⟨xs,x,hq,hx⟩:=hg;obtain⟨its,rv,p,hz⟩:=I.list hq;obtain⟨u,hu,ru⟩:=rv.get hx;obtain⟨f0,f1,f2,f3,f4,f5⟩:=hf it (by simp);refine wpAny_pyNext_list_item st p.isList (x:=u) (by simpa using hu) fun h' RM sb=>?_;have I1:Inv X pins σ H { s with heap:=h' }:=I.turned (t':=s.toks) (fun b o hb e=>(sb.2 b hb).trans e) f0 f1 f3 f4 f5;obtain⟨o,e,c,d⟩:=id RM;exact⟨u,rfl,xv (s:={ s with heap:=h' }) e c d (by decide) ⟨x,H,I1,ru,⟨rfl,fun ys hy=>by rw[I.Rq hy hq];exact hx⟩,RM,fun b hb=>(hf b hb).1⟩⟩
 done:=by intro X hP hw hK hc i pins s σ H E I hf st hg;subst hP hw hK;obtain⟨xs,hq,hx⟩:=hg;obtain⟨its,rv,p,hz⟩:=I.list hq;obtain⟨f0,f1,f2,f3,f4,f5⟩:=hf it (by simp);have hl:=rv.length;exact wpAny_pyNext_list_end (I.ok.hd hc) st p.isList (by simp;omega) fun h' eb=>⟨rfl,I.turned (t':=s.toks) (fun b o hb e=>eb b o hb e) f0 f1 f3 f4 f5⟩
 self:=fun _ _ _ _ _ st h=>wpAny_pyIter_listiter st h
theorem vj{P:Program}{w:World}{K:W.Frag}{tg:Expr}(a it:Addr):zg P w K tg (Z0 K a) [it] it (fun i h=>h.IsTupleIter it a i) where
 mem:=by simp
 obj:=fun i h st b hb=>by
  have e:b=it:=by simpa using hb
  subst e;obtain⟨o,e,c,d⟩:=st;exact⟨o,e,fun v z=>by rw[d]at z;cases z⟩
 keep:=fun i h h' st k=>st.at fun o e=>k it (by simp) o e
 item:=by intro X hP hw hK hc i pins s σ H E I hf st hg;subst hP hw hK;obtain⟨xs,x,hq,hx⟩:=hg;obtain⟨its,rv,p,hz⟩:=I.tuple hq;obtain⟨u,hu,ru⟩:=rv.get hx;obtain⟨f0,f1,f2,f3,f4,f5⟩:=hf it (by simp);refine wpAny_pyNext_tuple_item st (show s.heap.IsTuple a its.toArray from p) (x:=u) (by simpa using hu) fun h' RM sb=>?_;have I1:Inv X pins σ H { s with heap:=h' }:=I.turned (t':=s.toks) (fun b o hb e=>(sb.2 b hb).trans e) f0 f1 f3 f4 f5;obtain⟨o,e,c,d⟩:=id RM;exact⟨u,rfl,xv (s:={ s with heap:=h' }) e c d (by decide) ⟨x,H,I1,ru,⟨rfl,fun ys hy=>by rw[I.Q5 hy hq];exact hx⟩,RM,fun b hb=>(hf b hb).1⟩⟩
 done:=by intro X hP hw hK hc i pins s σ H E I hf st hg;subst hP hw hK;obtain⟨xs,hq,hx⟩:=hg;obtain⟨its,rv,p,hz⟩:=I.tuple hq;obtain⟨f0,f1,f2,f3,f4,f5⟩:=hf it (by simp);have hl:=rv.length;exact wpAny_pyNext_tuple_end (I.ok.hd hc) st (show s.heap.IsTuple a its.toArray from p) (by simp;omega) fun h' eb=>⟨rfl,I.turned (t':=s.toks) (fun b o hb e=>eb b o hb e) f0 f1 f3 f4 f5⟩
 self:=fun _ _ _ _ _ st h=>wpAny_pyIter_tupleiter st h
theorem vk{P:Program}{w:World}{K:PySem.W.Frag}{tg:Expr}(it:Addr)(lo:Int)(n:Nat):zg P w K tg (Ye lo n) [it] it (fun i h=>IsRangeIter h it (lo+(i:Nat) * 1) ((n:Int) - (i:Nat)) 1) where
 mem:=by simp
 obj:=fun i h st b hb=>by
  have e:b=it:=by simpa using hb
  subst e
  exact⟨_,st,fun v z=>by
   have z':Data.fields _=Data.cell v:=z
   cases z'⟩
 keep:=fun i h h' st k=>k it (by simp) _ st
 item:=by intro X hP hw hK hc i pins s σ H E I hf st hg;subst hP hw hK;obtain⟨f0,f1,f2,f3,f4,f5⟩:=hf it (by simp);have W:=Walks.range (prog:=X.prog) (w:=X.w) (I.ok.hd hc) it lo 1 n;refine W.item i s _ _ hg st fun v h' tk hv RM kk=>?_;obtain⟨t,rfl⟩:=hv;have I1:Inv X pins σ H { s with heap:=h',toks:=tk }:=I.turned (fun b o hb e=>kk b o (by simpa using hb) e) f0 f1 f3 f4 f5;refine⟨_,rfl,xv (s:={ s with heap:=h',toks:=tk }) (n:="range_iterator") RM rfl rfl (by decide) ⟨.int (lo+i),H,I1,⟨t,?_⟩,⟨rfl,rfl⟩,RM,fun b hb=>(hf b hb).1⟩⟩;rw[Int.mul_one]
 done:=by intro X hP hw hK hc i pins s σ H E I hf st hg;subst hP hw hK;obtain⟨f0,f1,f2,f3,f4,f5⟩:=hf it (by simp);exact wpAny_pyNext_range_end (I.ok.hd hc) st (by have:n≤i:=hg;omega) fun h' eb=>⟨rfl,I.turned (t':=s.toks) (fun b o hb e=>eb b o hb e) f0 f1 f3 f4 f5⟩
 self:=fun _ _ _ _ _ st h=>wpAny_pyIter_rangeiter st h
section
variable{X:Cx}{tg:Expr}
def Iz(K:W.Frag)(tl:TE):TI:=fun σ H R=>tl σ H fun x H1=>∃a,x=.ref a∧(∃xs,M_ K H1 a xs)∧R (Z1 K a) H1
def Ks(K:W.Frag)(tl:TE):TI:=fun σ H R=>tl σ H fun x H1=>∃a,x=.ref a∧(∃xs,NP K H1 a xs)∧R (Z0 K a) H1
theorem xh{l:Expr}{tl:TE}(hl:PE X l tl):PI X tg l (Iz X.K tl):=by
 intro pins s σ H R I h;refine J6 (hl pins s σ H _ I h) ?_;rintro v s1 ⟨x,H1,I1,r1,q1⟩;obtain⟨a,e,⟨xs,hq⟩,q⟩:=q1;subst e
 cases r1
 obtain⟨its,rv,p,hz⟩:=I1.list hq;refine wpAny_pyIter_list p.isList ?_;refine⟨s1.heap.objs.size,[s1.heap.objs.size],_,_,H1,rfl,I1.kept (t':=s1.toks) fun b o e=>Heap.get?_push_of_some _ e,xU a _,⟨_,Heap.get?_push_size _ rfl,rfl,rfl⟩,fun b hb=>?_,q⟩;have e:b=s1.heap.objs.size:=by simpa using hb
 subst e;exact I1.R_ (acg _) (I1.hok.fresh (acg _))
theorem FS{l:Expr}{tl:TE}(hl:PE X l tl):PI X tg l (Ks X.K tl):=by
 intro pins s σ H R I h;refine J6 (hl pins s σ H _ I h) ?_;rintro v s1 ⟨x,H1,I1,r1,q1⟩;obtain⟨a,e,⟨xs,hq⟩,q⟩:=q1;subst e
 cases r1
 obtain⟨its,rv,p,hz⟩:=I1.tuple hq;refine wpAny_pyIter_tuple (show s1.heap.IsTuple a its.toArray from p) ?_;refine⟨s1.heap.objs.size,[s1.heap.objs.size],_,_,H1,rfl,I1.kept (t':=s1.toks) fun b o e=>Heap.get?_push_of_some _ e,vj a _,⟨_,Heap.get?_push_size _ rfl,rfl,rfl⟩,fun b hb=>?_,q⟩;have e:b=s1.heap.objs.size:=by simpa using hb
 subst e;exact I1.R_ (acg _) (I1.hok.fresh (acg _))
theorem zX{pins:List (Addr×Obj)}{σ:St}{H:Hp}{s:Shared}{R:It→Hp→Prop}{E:Value→Shared→Prop}{lo hi:Int}{t u v:Tok}{tk:Nat}(I:Inv X pins σ H s)(h1: -(2 ^ 62)≤lo)(h2:lo<2 ^ 62)(h3: -(2 ^ 62)≤hi)(h4:hi<2 ^ 62)
  (q:R (Ye lo (hi - lo).toNat) H):wpAny (model X.prog X.w) X.A (pyIter (.ref s.heap.objs.size)) (PIE X pins σ tg R) E { s with heap:=s.heap.push { cls:=.type "range",data:=.fields #[.int lo t,.int hi u,.int 1 v] },toks:=tk }:=by
 refine wpAny_pyIter_range (IsRange.new ..) (small_one h1 h2 h3 h4) ?_;have I1:Inv X pins σ H { s with heap:=s.heap.push { cls:=.type "range",data:=.fields #[.int lo t,.int hi u,.int 1 v] },toks:=tk }:=I.kept fun b o e=>Heap.get?_push_of_some _ e
 refine⟨(s.heap.push { cls:=.type "range",data:=.fields #[.int lo t,.int hi u,.int 1 v] }).objs.size,[(s.heap.push { cls:=.type "range",data:=.fields #[.int lo t,.int hi u,.int 1 v] }).objs.size],_,_,H,rfl,
  I1.kept (t':=tk) fun b o e=>Heap.get?_push_of_some _ e,vk _ lo (hi - lo).toNat,?_,fun b hb=>?_,q⟩
 ·have e1:lo+((0:Nat):Int) * 1=lo:=by simp
  have e2:(((hi - lo).toNat:Nat):Int) - ((0:Nat):Int)=Builtin.Range.rangeSize lo hi 1:=by rw[rangeSize_one];split<;>omega
  show IsRangeIter _ _ (lo+((0:Nat):Int) * 1) ((((hi - lo).toNat:Nat):Int) - ((0:Nat):Int)) 1;rw[e1,e2];exact Heap.get?_push_size _ rfl
 ·have e:b=(s.heap.push { cls:=.type "range",data:=.fields #[.int lo t,.int hi u,.int 1 v] }).objs.size:=by simpa using hb
  subst e;exact I1.R_ (acg _) (I1.hok.fresh (acg _))
def Iy(ta:TA):TI:=fun σ H R=>ta σ H fun vs H1=>∃j:Int,vs= [.int j]∧ -(2 ^ 62)≤j∧j<2 ^ 62∧R (Ye 0 j.toNat) H1
theorem yr{a:Expr}{ta:TA}{p pos:Pos}(hg:Gl X "range")(hm:X.mg "range"=none)(ha:PA X [a] ta)(hs:starEach [a] X.env= [(false,eval a X.env)]:=by rfl):PI X tg (.Call (.Name "range" p) [a] [] pos) (Iy ta):=by
 intro pins s σ H R I h;refine Call_ (ig I hg hm boot_range (PyProof.Rows.callWith_type1 (J6 (ha pos pins s σ H _ I h) ?_) hs rfl));rintro us s1 ⟨vs,H1,I1,r1,q1⟩;obtain⟨j,e,q1,q2,q⟩:=q1;subst e
 cases r1 with
 |cons r rr=>
  cases rr
  obtain⟨t,rfl⟩:=r;exact call_range_1 (zX I1 (by omega) (by omega) q1 q2 (by simpa using q))
noncomputable def Jz(wi:TI)(g:TG)(tb:TS):TS:=fun D σ H=>wi σ H fun J H1=>∃W:Nat→Nat→St→Hp→Prop,(∃m,W 0 m σ H1)∧∀i m σ H,W i m σ H→
 (J.stop i H∧D.nx σ H)∨(J.go i H∧∃N:St→Hp→Prop,(∀ σ' H',N σ' H'→∃m',m'<m∧W (i+1) m' σ' H')∧∀x H',J.Vi i H x H'→g x σ H' fun σ2 H2=>tb { D with nx:=N,ct:=N,bk:=D.nx } σ2 H2)
noncomputable def mt(fp:List Addr)(h:Heap):List (Addr×Obj):=fp.filterMap fun b=>(h.get? b).map fun o=>(b,o)
theorem fy{fp:List Addr}{h:Heap}{b:Addr}{o:Obj}(hb:b∈fp)(e:h.get? b=some o):(b,o)∈mt fp h:=List.mem_filterMap.mpr ⟨b,hb,by rw[e];rfl⟩
theorem yB{fp:List Addr}{h:Heap}{p:Addr×Obj}(hp:p∈mt fp h):p.1∈fp∧h.get? p.1=some p.2:=by
 obtain⟨b,hb,e⟩:=List.mem_filterMap.mp hp
 cases q:h.get? b with
 |none=>rw[q]at e;cases e
 |some o=>rw[q]at e;have e':(b,o)=p:=Option.some.inj e;subst e';exact⟨hb,q⟩
theorem Inv.pinned{pins:List (Addr×Obj)}{σ:St}{H:Hp}{s:Shared}{fp:List Addr}(I:Inv X pins σ H s)(hf:∀b∈fp,kh X pins H b)(ho:∀b∈fp,∃o,s.heap.get? b=some o∧∀v,o.data≠.cell v):Inv X (pins++mt fp s.heap) σ H s:=
 I.Mv fun p hp=>(List.mem_append.mp hp).elim (fun z=>I.pin p (List.mem_append_right _ z)) fun z=>by obtain⟨hb,e⟩:=yB z;obtain⟨f0,f1,f2,_⟩:=hf p.1 hb;obtain⟨o,e',d⟩:=ho p.1 hb;rw[e]at e';cases e';exact⟨e,f0,f1,f2,d⟩
theorem Inv.QC{pins pl:List (Addr×Obj)}{σ:St}{H:Hp}{s:Shared}(I:Inv X (pins++pl) σ H s):Inv X pins σ H s:=I.Mv fun p hp=>I.pin p (List.mem_append_right _ (List.mem_append_left _ hp))
theorem FP{iter:Expr}{body:List Stmt}{wi:TI}{g:TG}{tb:TS}{pos:Pos}(hp:PassesOwn (model X.prog X.w) X.A X.env X.xe)(hc:X.calm=true)(hi:PI X tg iter wi)(hg:PG X tg g)(hb:Q0 X body tb)
  (hs:∀x,foldedSetIterable iter X.env x=pure x:=by intro _;rfl):PS X (.For tg iter body [] pos) (Jz wi g tb):=by
 intro pins s σ H D I h;refine wpAny_For (J6 (hi pins s σ H _ I h) fun v s1 h1=>J6 h1 fun XF s2 h2=>?_) hs;obtain⟨it,fp,tn,J,H2,e,I2,T,Uo,f2,W,⟨m0,w0⟩,turn⟩:=h2;subst e;have stat:∀{H':Hp},(∀b∈fp,H' b=none)→∀b∈fp,kh X pins H' b:=fun hn b hb=>⟨hn b hb,(f2 b hb).2⟩
 refine codeAny_forLoop_any (fun n s'=>∃i σ' H',Inv X pins σ' H' s'∧tn i s'.heap∧(∀b∈fp,H' b=none)∧W i n σ' H') ?_ m0 ⟨0,σ,H2,I2,Uo,fun b hb=>(f2 b hb).1,w0⟩
 rintro n s3 ⟨i,σ3,H3,I3,st3,fr3,w3⟩
 rcases turn i n σ3 H3 w3 with⟨stop,qn⟩|⟨go,N,hN,step⟩
 ·refine wpAny_passesOwn hp (J6 (T.done X rfl rfl rfl hc i pins s3 σ3 H3 X.xe I3 (stat fr3) st3 stop) ?_);rintro r s4 ⟨hr,I4⟩;subst hr;exact wpAny_execs_nil ⟨σ3,H3,I4,qn⟩
 ·refine wpAny_passesOwn hp (J6 (T.item X rfl rfl rfl hc i pins s3 σ3 H3 X.xe I3 (stat fr3) st3 go) ?_);rintro r s4 ⟨u,hr,h4⟩;subst hr;refine wpAny_passesOwn hp (J6 h4 ?_);rintro _ s5 ⟨x,H5,I5,r5,y5,Um,VP⟩;have V4:=I5.pinned (stat VP) (T.obj _ _ Um);refine wpAny_passesOwn hp (J6 (hg _ s5 σ3 H5 x u _ V4 r5 (step x H5 y5)) ?_);rintro _ s6 ⟨σ6,H6,I6,q6⟩;refine wpAny_passesOwn hp (J6 (hb _ s6 σ6 H6 _ I6 q6) fun f s7 q7=>?_)
  have again:∀{σ7:St}{H7:Hp},Inv X (pins++mt fp s5.heap) σ7 H7 s7→N σ7 H7→∃m,m<n∧∃i σ' H',Inv X pins σ' H' s7∧tn i s7.heap∧(∀b∈fp,H' b=none)∧W i m σ' H':=fun{σ7 H7} I7 n7=>by obtain⟨m',hm,w7⟩:=hN σ7 H7 n7;refine⟨m',hm,i+1,σ7,H7,I7.QC,T.keep _ _ _ Um fun b hb o e=>(I7.pin (b,o) (List.mem_append_right _ (List.mem_append_right _ (fy hb e)))).1,fun b hb=>?_,w7⟩;obtain⟨o,e,d⟩:=T.obj _ _ Um b hb;exact(I7.pin (b,o) (List.mem_append_right _ (List.mem_append_right _ (fy hb e)))).2.1
  cases f with
  |next=>obtain⟨σ7,H7,I7,n7⟩:=q7;exact again I7 n7
  |cont=>obtain⟨σ7,H7,I7,n7⟩:=q7;exact again I7 n7
  |brk=>obtain⟨σ7,H7,I7,q7⟩:=q7;exact⟨σ7,H7,I7.QC,q7⟩
  |ret v=>obtain⟨x7,σ7,H7,I7,r7,q7⟩:=q7;exact⟨x7,σ7,H7,I7.QC,r7,q7⟩
end
abbrev R2:=V→V→Hp→VK→Prop
def Nq(X:Cx)(f:Value→Value→Sem Value)(r:R2):Prop:=
 ∀(pins:List (Addr×Obj))(s:Shared)(σ:St)(H:Hp)(x y:V)(v u:Value)(Q:VK),Inv X pins σ H s→bB x v→bB y u→r x y H Q→
  wpAny (model X.prog X.w) X.A (f v u) (EP X pins σ Q) X.xe s
def Yc(X:Cx)(f:Value→Sem Value)(r:V→Hp→VK→Prop):Prop:=
 ∀(pins:List (Addr×Obj))(s:Shared)(σ:St)(H:Hp)(x:V)(v:Value)(Q:VK),Inv X pins σ H s→bB x v→r x H Q→
  wpAny (model X.prog X.w) X.A (f v) (EP X pins σ Q) X.xe s
def dZ(X:Cx)(f:Value)(r:List V→Hp→VK→Prop):Prop:=
 ∀(pins:List (Addr×Obj))(s:Shared)(σ:St)(H:Hp)(xs:List V)(us:List Value)(Q:VK),Inv X pins σ H s→bh xs us→r xs H Q→
  wpAny (model X.prog X.w) X.A (call f us) (EP X pins σ Q) X.xe s
def KS(X:Cx)(r:V→Hp→(Bool→Hp→Prop)→Prop):Prop:=
 ∀(pins:List (Addr×Obj))(s:Shared)(σ:St)(H:Hp)(x:V)(v:Value)(Q:Bool→Hp→Prop),Inv X pins σ H s→bB x v→r x H Q→
  wpAny (model X.prog X.w) X.A (truthy v) (TP X pins σ Q) X.xe s
noncomputable def Wi(r:R2)(ta tb:TE):TE:=fun σ H Q=>ta σ H fun x H1=>tb σ H1 fun y H2=>r x y H2 Q
noncomputable def tUn(r:V→Hp→VK→Prop)(ta:TE):TE:=fun σ H Q=>ta σ H fun x H1=>r x H1 Q
noncomputable def rI(C:Int→Int→Prop)(g:Int→Int→V):R2:=fun x y H Q=>∃i j,x=.int i∧y=.int j∧C i j∧Q (g i j) H
noncomputable def T8(g:Int→Int→V):R2:=fun x y H Q=>∃i j,x=.int i∧y=.int j∧Q (g i j) H
def rU(g:Int→V):V→Hp→VK→Prop:=fun x H Q=>∃i,x=.int i∧Q (g i) H
section
variable{X:Cx}{a b c:Expr}{ta tb tc:TE}{pos:Pos}
theorem GM(ha:PE X a ta)(hb:PE X b tb){pins:List (Addr×Obj)}{s:Shared}{σ:St}{H:Hp}{R:V→V→Hp→Prop}(I:Inv X pins σ H s)
  (h:ta σ H fun x H1=>tb σ H1 fun y H2=>R x y H2) {Q:Value→Shared→Prop} {f:Value→Value→Sem Value}
  (hf:∀v u s2 x y H2,Inv X pins σ H2 s2→bB x v→bB y u→R x y H2→wpAny (model X.prog X.w) X.A (f v u) Q X.xe s2):
  wpAny (model X.prog X.w) X.A (eval a X.env) (fun v s₁=>wpAny (model X.prog X.w) X.A (eval b X.env) (fun u s₂=>wpAny (model X.prog X.w) X.A (f v u) Q X.xe s₂) X.xe s₁) X.xe s:=by
 refine J6 (ha pins s σ H _ I h) ?_;rintro v s1 ⟨x,H1,I1,r1,q1⟩;refine J6 (hb pins s1 σ H1 _ I1 q1) ?_;rintro u s2 ⟨y,H2,I2,r2,q2⟩;exact hf v u s2 x y H2 I2 r1 r2 q2
theorem HS{op:Operator}{r:R2}(ho:Nq X (binaryOp op) r)(ha:PE X a ta)(hb:PE X b tb):PE X (.BinOp a op b pos) (Wi r ta tb):=by intro pins s σ H Q I h;exact wpAny_BinOp (GM ha hb I h fun v u s2 x y H2 I2 rx ry q=>ho pins s2 σ H2 x y v u Q I2 rx ry q)
theorem HQ{op:UnaryOp}{r:V→Hp→VK→Prop}(ho:Yc X (unaryOp op) r)(ha:PE X a ta):PE X (.UnaryOp op a pos) (tUn r ta):=by intro pins s σ H Q I h;exact UnaryOp_ (J6 (ha pins s σ H _ I h) (by rintro v s1 ⟨x,H1,I1,r1,q1⟩;exact ho pins s1 σ H1 x v Q I1 r1 q1))
theorem Yt{f:Value→Value→Sem Value}{C:Int→Int→Prop}{g:Int→Int→Int}
  (rule:∀(i j:Int)(t u:Tok)(s:Shared)(Q:Value→Shared→Prop)(E:Value→Shared→Prop),C i j→Q (.int (g i j) s.toks) { s with toks:=s.toks+1 }→wpAny (model X.prog X.w) X.A (f (.int i t) (.int j u)) Q E s):
  Nq X f (rI C fun i j=>.int (g i j)):=by
 intro pins s σ H x y v u Q I rx ry h;obtain⟨i,j,rfl,rfl,hc,q⟩:=h;obtain⟨t,rfl⟩:=rx;obtain⟨t',rfl⟩:=ry;exact rule i j t t' s _ _ hc ⟨.int (g i j),H,I.tok _,⟨_,rfl⟩,q⟩
theorem Ic{f:Value→Value→Sem Value}{g:Int→Int→Int}
  (rule:∀(i j:Int)(t u:Tok)(s:Shared)(Q:Value→Shared→Prop)(E:Value→Shared→Prop),Q (.int (g i j) s.toks) { s with toks:=s.toks+1 }→wpAny (model X.prog X.w) X.A (f (.int i t) (.int j u)) Q E s):
  Nq X f (T8 fun i j=>.int (g i j)):=by
 intro pins s σ H x y v u Q I rx ry h;obtain⟨i,j,rfl,rfl,q⟩:=h;obtain⟨t,rfl⟩:=rx;obtain⟨t',rfl⟩:=ry;exact rule i j t t' s _ _ ⟨.int (g i j),H,I.tok _,⟨_,rfl⟩,q⟩
theorem Gk{f:Value→Value→Sem Value}{g:Int→Int→Bool}
  (rule:∀(i j:Int)(t u:Tok)(s:Shared)(Q:Value→Shared→Prop)(E:Value→Shared→Prop),Q (.bool (g i j)) s→wpAny (model X.prog X.w) X.A (f (.int i t) (.int j u)) Q E s):
  Nq X f (T8 fun i j=>.bl (g i j)):=by
 intro pins s σ H x y v u Q I rx ry h;obtain⟨i,j,rfl,rfl,q⟩:=h;obtain⟨t,rfl⟩:=rx;obtain⟨t',rfl⟩:=ry;exact rule i j t t' s _ _ ⟨.bl (g i j),H,I,rfl,q⟩
def KY(i j:Int):Prop:=0<j∧j<1073741824
def Ea(i j:Int):Prop:=(-(2 ^ 64)<i∧i<2 ^ 64)∨(-(2 ^ 64)<j∧j<2 ^ 64)
theorem Ea.ok{i j:Int}(h:Ea i j):IntMulOk i j:=by
 rcases h with⟨h1,h2⟩|⟨h1,h2⟩
 ·exact .of_left (intBits_le_64 h1 h2)
 ·exact .of_right (intBits_le_64 h1 h2)
theorem Gj:Nq X (binaryOp .Add) (T8 fun i j=>.int (i+j)):=Ic fun _ _ _ _ _ _ _ q=>add_int q
theorem Gf:Nq X (binaryOp .Sub) (T8 fun i j=>.int (i - j)):=Ic fun _ _ _ _ _ _ _ q=>sub_int q
theorem Dj:Nq X (binaryOp .FloorDiv) (rI KY fun i j=>.int (i / j)):=Yt fun i j _ _ _ _ _ hc q=>by have h1:(0:Int)<j:=hc.1;have h2:j<1073741824:=hc.2;exact floordiv_int (by omega) (by rw[Int.fdiv_eq_ediv_of_nonneg i (by omega)];exact q) (.inl (PyProof.noPylong_small (by omega)))
theorem Gh:Nq X (binaryOp .Mod) (rI (fun _ j=>0<j) fun i j=>.int (i % j)):=Yt fun i j _ _ _ _ _ hc q=>by have h1:(0:Int)<j:=hc;exact mod_int' (by omega) (by rw[Int.fmod_eq_emod_of_nonneg i (by omega)];exact q)
theorem unI{f:Value→Sem Value}{g:Int→Int}
  (rule:∀(i:Int)(t:Tok)(s:Shared)(Q:Value→Shared→Prop)(E:Value→Shared→Prop),Q (.int (g i) s.toks) { s with toks:=s.toks+1 }→wpAny (model X.prog X.w) X.A (f (.int i t)) Q E s):
  Yc X f (rU fun i=>.int (g i)):=by
 intro pins s σ H x v Q I rx h;obtain⟨i,rfl,q⟩:=h;obtain⟨t,rfl⟩:=rx;exact rule i t s _ _ ⟨.int (g i),H,I.tok _,⟨_,rfl⟩,q⟩
theorem Fe:Yc X (unaryOp .USub) (rU fun i=>.int (-i)):=unI fun _ _ _ _ _ q=>neg_int q
theorem yA:Nq X (binaryOp .Add) (fun x y H Q=>∃i k,x=.int i∧y=.bl k∧Q (.int (i+b2i k)) H):=by
 intro pins s σ H x y v u Q I rx ry h;obtain⟨i,k,rfl,rfl,q⟩:=h;obtain⟨t,rfl⟩:=rx
 cases ry
 exact add_int_bool ⟨.int (i+b2i k),H,I.tok _,⟨_,rfl⟩,q⟩
end
section
variable{X:Cx}{a b c:Expr}{ta tb tc:TE}{pos:Pos}
theorem BA{pins:List (Addr×Obj)}{σ:St}{H:Hp}{s:Shared}{Q:VK}{k k':Bool}(I:Inv X pins σ H s)(q:Q (.bl k) H)(e:k=k'):EP X pins σ Q (.bool k') s:=by subst e;exact⟨.bl k,H,I,rfl,q⟩
theorem AI:Nq X (compareOp .Lt) (T8 fun i j=>.bl (decide (i<j))):=Gk fun _ _ _ _ _ _ _ q=>lt_int q
theorem uj:Nq X (compareOp .Gt) (T8 fun i j=>.bl (decide (j<i))):=Gk fun _ _ _ _ _ _ _ q=>gt_int q
theorem Ib:Nq X (compareOp .GtE) (T8 fun i j=>.bl (decide (j≤i))):=Gk fun _ _ _ _ _ _ _ q=>ge_int q
theorem AJ:Nq X (compareOp .Is) (fun x y H Q=>y=.non∧Q (.bl (decide (x=.non))) H):=by
 intro pins s σ H x y v u Q I rx ry h;obtain⟨rfl,q⟩:=h
 cases ry
 refine is_none_gen (BA I q ?_)
 cases x<;>first
  |(cases rx;rfl)
  |(obtain⟨t,rfl⟩:=rx;rfl)
theorem rE:Nq X (compareOp .IsNot) (fun x y H Q=>y=.non∧Q (.bl (!decide (x=.non))) H):=by
 intro pins s σ H x y v u Q I rx ry h;obtain⟨rfl,q⟩:=h
 cases ry
 refine isnot_none_gen (BA I q ?_)
 cases x<;>first
  |(cases rx;rfl)
  |(obtain⟨t,rfl⟩:=rx;rfl)
theorem dg(b:Expr){op:CmpOp}(h:op≠.In:=by decide)(h2:op≠.NotIn:=by decide):behindInMarks op b=false:=by
 have e1:(op==CmpOp.In)=false:=by cases op<;>first|rfl|exact absurd rfl h
 have e2:(op==CmpOp.NotIn)=false:=by cases op<;>first|rfl|exact absurd rfl h2
 cases b<;>simp[behindInMarks,e1,e2]
theorem De{op:CmpOp}{r:R2}(ho:Nq X (compareOp op) r)(ha:PE X a ta)(hb:PE X b tb)(hm:behindInMarks op b=false):PE X (.Compare a [op] [b] pos) (Wi r ta tb):=by intro pins s σ H Q I h;exact wpAny_Compare1 (GM ha hb I h fun v u s2 x y H2 I2 rx ry q=>ho pins s2 σ H2 x y v u Q I2 rx ry q) hm
noncomputable def Hi(t:TE):TT:=fun σ H Q=>t σ H fun x H'=>∃k,x=.bl k∧Q k H'
theorem CP{op:CmpOp}{r:R2}(ho:Nq X (compareOp op) r)(ha:PE X a ta)(hb:PE X b tb)(hm:behindInMarks op b=false):PT X (.Compare a [op] [b] pos) (Hi (Wi r ta tb)):=by
 intro pins s σ H Q I h
 refine wpAny_isTrue_Compare1 (J6 (ha pins s σ H _ I h) fun v s1 ⟨x,H1,I1,r1,q1⟩=>J6 (hb pins s1 σ H1 _ I1 q1) fun u s2 ⟨y,H2,I2,r2,q2⟩=>J6 (ho pins s2 σ H2 x y v u _ I2 r1 r2 q2) ?_) hm;rintro c s3 ⟨z,H3,I3,r3,k,e,q3⟩
 subst e
 cases r3
 exact wpAny_truthy_bool ⟨H3,I3,q3⟩
def GT(K:W.Frag)(x:V)(H:Hp)(k:Bool):Prop:=
 match x with
 |.non=>k=false
 |.bl b=>k=b
 |.int i=>k=(i !=0)
 |.str y=>y.length≤sizeLine∧k=((y.length:Int) !=0)
 |.Wb y=>y.size≤sizeLine∧k=((y.size:Int) !=0)
 |.ref p=>(∃xs,M_ K H p xs∧k=!xs.isEmpty)∨(∃xs,NP K H p xs∧k=!xs.isEmpty)∨∃kvs,H p=some (.dK kvs)∧k=!kvs.isEmpty
 |_=>False
theorem vU{κ:Type}{kvs:List (κ×V)}{vs:List (κ×Value)}(r:KV kvs vs):(!vs.isEmpty)=!kvs.isEmpty:=by cases r<;>rfl
theorem oN{xs:List V}{its:List Value}(r:bh xs its):(!its.toArray.isEmpty)=!xs.isEmpty:=by cases r<;>simp
theorem kL:(sizeLine:Nat)<2 ^ 63:=by rw[sizeLine_eq];decide
theorem zt:KS X (fun x H Q=>∃k,GT X.K x H k∧Q k H):=by
 intro pins s σ H x v Q I rx h;obtain⟨k,e,q⟩:=h;have hl:=kL;have hs:sizeLine=16777216:=sizeLine_eq
 cases x with
 |non=>
  cases rx
  have e':k=false:=e;subst e';exact truthy_none ⟨H,I,q⟩
 |bl b=>
  cases rx
  have e':k=b:=e;subst e';exact wpAny_truthy_bool ⟨H,I,q⟩
 |int i=>obtain⟨t,rfl⟩:=rx;have e':k=(i !=0):=e;subst e';exact PySem.P.truthy_int ⟨H,I,q⟩
 |str y=>obtain⟨t,rfl⟩:=rx;obtain⟨hy,e'⟩:y.length≤sizeLine∧k=((y.length:Int) !=0):=e;subst e';exact PySem.P.truthy_str (by omega) ⟨H,I.tok _,q⟩
 |Wb y=>obtain⟨t,rfl⟩:=rx;obtain⟨hy,e'⟩:y.size≤sizeLine∧k=((y.size:Int) !=0):=e;subst e';exact W.truthy_bytes (by omega) ⟨H,I.tok _,q⟩
 |ref p=>
  cases rx
  have e':(∃xs,M_ X.K H p xs∧k=!xs.isEmpty)∨(∃xs,NP X.K H p xs∧k=!xs.isEmpty)∨∃kvs,H p=some (.dK kvs)∧k=!kvs.isEmpty:=e;rcases e' with⟨xs,hx,e'⟩|⟨xs,hx,e'⟩|⟨kvs,hx,e'⟩
  ·subst e';obtain⟨its,r,pl,hz⟩:=I.list hx;have Mi:=r.length;exact wpAny_truthy_list pl.isList (by simp only[List.size_toArray];omega) ⟨H,I.tok _,by rw[oN r];exact q⟩
  ·subst e';obtain⟨its,r,pl,hz⟩:=I.tuple hx;have Mi:=r.length;exact truthy_tuple pl (by simp only[List.size_toArray];omega) ⟨H,I.tok _,by rw[oN r];exact q⟩
  ·subst e';obtain⟨hz,hS,vs,r,m⟩:kvs.length≤sizeLine∧(p==sysModules)=false∧∃vs,KV kvs vs∧s.heap.DictOf (cS X.prog X.w) p vs:=I.hok p _ hx;have Mi:kvs.length=vs.length:=Paired.length r;exact wpAny_truthy_dict hS m (by omega) ⟨H,I.tok _,by rw[vU r];exact q⟩
 |_=>exact(show False from e).elim
theorem Ae(ha:PE X a ta)(he:∀whole,isTrue a X.env whole=(do let v ← whole;standAt a.pos;holding [v] (truthy v))):
  PT X a (fun σ H Q=>ta σ H fun x H'=>∃k,GT X.K x H' k∧Q k H'):=by
 intro pins s σ H Q I h;exact isTrue_plain (J6 (ha pins s σ H _ I h) (by rintro v s1 ⟨x,H1,I1,r1,q1⟩;exact zt pins s1 σ H1 x v Q I1 r1 q1)) (he _)
theorem vI:Nq X (binaryOp .Add) (fun x y H Q=>∃i j,x=.str i∧y=.str j∧i.length+j.length≤sizeLine∧Q (.str (i++j)) H):=by intro pins s σ H x y v u Q I rx ry h;obtain⟨i,j,rfl,rfl,hz,q⟩:=h;obtain⟨t,rfl⟩:=rx;obtain⟨t',rfl⟩:=ry;exact add_str (fun t' tk=>⟨.str (i++j),H,I.tok _,⟨_,rfl⟩,q⟩) hz
theorem nJ{x:V}{us:List Value}(r:bh [x] us):∃u,us= [u]∧bB x u:=by
 cases r with
 |cons r1 r2=>cases r2;exact⟨_,rfl,r1⟩
theorem zn{x y:V}{us:List Value}(r:bh [x,y] us):∃u w',us= [u,w']∧bB x u∧bB y w':=by
 cases r with
 |cons r1 r2=>
  cases r2 with
  |cons r3 r4=>cases r4;exact⟨_,_,rfl,r1,r3⟩
theorem yX(hc:X.calm=true):dZ X (.builtin "max") (fun xs H Q=>∃i j,xs= [.int i,.int j]∧Q (.int (if j>i then j else i)) H):=by
 intro pins s σ H xs us Q I r h;obtain⟨i,j,rfl,q⟩:=h;obtain⟨u,w',rfl,⟨t,rfl⟩,⟨t',rfl⟩⟩:=zn r;refine max_two_ints (I.ok.hd hc) fun h' tk k=>⟨_,H,I.kept k,?_,q⟩
 by_cases hj:j>i
 ·rw[if_pos hj,if_pos hj];exact⟨_,rfl⟩
 ·rw[if_neg hj,if_neg hj];exact⟨_,rfl⟩
theorem za:dZ X (.type "int") (fun xs H Q=>(∃i,xs= [.int i]∧Q (.int i) H)∨∃k,xs= [.bl k]∧Q (.int (if k then 1 else 0)) H):=by
 intro pins s σ H xs us Q I r h;rcases h with⟨i,rfl,q⟩|⟨k,rfl,q⟩
 ·obtain⟨u,rfl,t,rfl⟩:=nJ r;exact call_int_int ⟨.int i,H,I,⟨_,rfl⟩,q⟩
 ·obtain⟨u,rfl,r1⟩:=nJ r
  cases r1
  exact call_int_bool ⟨.int (if k then 1 else 0),H,I.tok _,⟨_,rfl⟩,q⟩
end
structure GX(h:Heap)(x dx C:Addr)(mA:Str→Option Value):Prop where
 obj:h.get? x=some (W.instObj C dx)
 ns:h.Ns1 dx mA
 ne:dx≠x
theorem qg{h:Heap}{dx:Addr}{mA:Str→Option Value}(n:h.Ns1 dx mA):∃od,h.get? dx=some od∧∀name,W.lookIn name od=some (mA name):=by
 obtain⟨o,es,ep,ho,hd,hk,_,hm⟩:=n;refine⟨o,ho,fun name=>?_⟩;have e:=hm name;unfold nsFind findBy at e;rw[← Array.find?_toList]at e;unfold W.lookIn;rw[hd];dsimp only
 split
 ·rename_i y q;rw[q]at e;exact congrArg some e
 ·rename_i q;rw[q]at e
  have a:es.toList.any (·.refKey)=false:=by rw[List.any_eq_false];intro y hy;obtain⟨z,t,Vy⟩:=hk y (Array.mem_toList_iff.mp hy);simp[DictEntry.refKey,Vy]
  have a':¬ es.toList.any (·.refKey)=true:=by rw[a];exact Bool.false_ne_true
  rw[if_neg a'];exact congrArg some e
theorem GX.look{h:Heap}{x dx C:Addr}{mA:Str→Option Value}(I:GX h x dx C mA):∃od,W.InstAt h x (W.instObj C dx) C (some od)∧∀name,W.lookIn name od=some (mA name):=
 let⟨od,ho,hl⟩:=qg I.ns
 ⟨od,⟨I.obj,rfl,rfl,ho⟩,hl⟩
theorem oZ.some_of{v:V}{o:Option Value}(r:oZ (some v) o):∃u,o=some u∧bB v u:=by
 cases o with
 |none=>exact(show False from r).elim
 |some u=>exact⟨u,rfl,r⟩
theorem yQ{v:V}{u:Value}(r:bB v u):W.handedIn u=true:=by
 cases v with
 |non=>cases(show u=Value.none from r);rfl
 |bl b=>cases(show u=Value.bool b from r);rfl
 |int i=>obtain⟨t,e⟩:=(show∃t,u=Value.int i t from r);cases e;rfl
 |str x=>obtain⟨t,e⟩:=(show∃t,u=Value.str x t from r);cases e;rfl
 |Wb b=>obtain⟨t,e⟩:=(show∃t,u=Value.bytes b t from r);cases e;rfl
 |flt b=>obtain⟨t,e⟩:=(show∃t,u=Value.float b t from r);cases e;rfl
 |ref a=>cases(show u=Value.ref a from r);rfl
 |ty n=>cases(show u=Value.type n from r);rfl
section
variable{P:Program}{w:World}{H H':Hp}{h h':Heap}{a C dx:Addr}{fs fs':List (Str×V)}
theorem Dx(hok:Ob P w H h)(e:H a=some (.ins C dx fs)):∃mA,GX h a dx C mA∧(∀f,oZ (fs.lookup f) (mA f))∧PySem.Within mA (fs.map (·.1))∧fs.length≤1000∧H dx=some (.own a):=by
 obtain⟨d,z,ne,ob,mA,n,r,q⟩:=(show bR P w H h a (.ins C dx fs)from hok a _ e)
 exact⟨mA,⟨ob,n,ne⟩,r,q,z,d⟩
end
structure Cls(K:W.Frag)(C:Addr):Prop where
 pg:W.plainGet K C Str.empty=true
 hd:W.hasDictIn K C=true
 po:W.plainOver K C=true
 sa:W.findIn K (.ref C) "__setattr__"=some (some (.builtin "object.__setattr__"))
theorem Cls.get{K:W.Frag}{C:Addr}(c:Cls K C)(f:Str):W.plainGet K C f=true:=c.pg
section
variable{X:Cx}{pins:List (Addr×Obj)}{σ:St}{H:Hp}{s:Shared}{a C dx:Addr}{fs:List (Str×V)}{f:Str}{v:V}{A:Around}{E:Value→Shared→Prop}
theorem DU{prog:Program}{w:World}{env:Env}{e:Expr}{f:Str}{pos:Pos}{s:Shared}{Q:Value→Shared→Prop}(hb:attributeBase e f env (eval e env)=eval e env)
  (h:wpAny (model prog w) A (eval e env) (fun o s₁=>wpAny (model prog w) A (getAttr o f true) Q E s₁) E s):wpAny (model prog w) A (eval (.Attribute e f pos) env) Q E s:=
 Attribute_any_ h (by rw[arm_eval_Attribute,hb])
end
structure cX(k:Nat)(A:Around):Prop where
 hd:A.handled=none
 dp:A.depth+3 * k+5<recursionLimit
 un:A.units+16 * k+200<cLine
 gd:A.guards=some []
theorem cX.mono{j k:Nat}{A:Around}(r:cX k A)(h:j≤k):cX j A:=⟨r.hd,by have:=r.dp;omega,by have:=r.un;omega,r.gd⟩
theorem cX.deeper{k:Nat}{A:Around}(r:cX (k+1) A)(env:Env):cX k (A.deeper env):=
 ⟨r.hd,by have:=r.dp;show A.depth+1+3 * k+5<_;omega,by have:=r.un;show A.units+3+16 * k+200<_;omega,r.gd⟩
theorem vQ{A:Around}{C:Addr}{us:List Value}{kw:List (Str×Value)}:(A.under (.builtin "type.__call__" ⟨.ref C::us,kw⟩)).depth=A.depth+1:=by first|rfl|simp[Around.under,Code.weight,Code.isCreation,Code.isGuard,Code.isCaller,Code.frames,Code.isFrame,guardIds]
theorem vP{A:Around}{C:Addr}{us:List Value}{kw:List (Str×Value)}:(A.under (.builtin "type.__call__" ⟨.ref C::us,kw⟩)).units=A.units+1:=by first|rfl|simp[Around.under,Code.cUnits,Code.frames,Code.isFrame]
theorem cX.make{k:Nat}{A:Around}(r:cX (k+1) A)(C:Addr)(us:List Value)(kw:List (Str×Value)):cX k (A.under (.builtin "type.__call__" ⟨.ref C::us,kw⟩)):=
 ⟨r.hd,by have:=r.dp;rw[vQ];omega,by have:=r.un;rw[vP];omega,by first|exact r.gd|(simp[Around.under,Code.guards,Code.isGuard,guardIds,pushGuards];exact r.gd)⟩
theorem cX.depth{k:Nat}{A:Around}(r:cX k A):A.depth<recursionLimit:=by have:=r.dp;omega
theorem cX.units{k:Nat}{A:Around}(r:cX k A):A.units+64<cLine:=by have:=r.un;omega
noncomputable def Jw:TA:=fun _ H Q=>Q [] H
noncomputable def Ho(ta:TE)(tr:TA):TA:=fun σ H Q=>ta σ H fun x H1=>tr σ H1 fun xs H2=>Q (x::xs) H2
section
variable{X:Cx}{e:Expr}{es:List Expr}{te:TE}{t:TA}{pos:Pos}
theorem vD:PA X [] Jw:=fun _ _ _ _ H Q I h=>Calls.spliced_nil ⟨[],H,I,.nil,h⟩
theorem rC(ha:PE X e te)(hr:PA X es t)(hs:sE0 X e es:=by rfl):PA X (e::es) (Ho te t):=by intro pos pins s σ H Q I h;rw[hs];show wpAny _ _ (spliced ((false,eval e X.env)::backTo pos (starEach es X.env))) _ _ s;refine Calls.spliced_cons (J6 (ha pins s σ H _ I h) ?_);rintro u s1 ⟨x,H1,I1,r1,q1⟩;exact J6 (hr pos pins s1 σ H1 _ I1 q1) (by rintro us s2 ⟨xs,H2,I2,r2,q2⟩;exact ⟨x::xs,H2,I2,.cons r1 r2,q2⟩)
def Jq(t:TA):TE:=fun σ H Q=>t σ H fun xs H1=>xs.length≤sizeLine∧∀p,H1 p=none→Q (.ref p) (upd H1 p (.tup xs))
def Jx(t:TA):TE:=fun σ H Q=>t σ H fun xs H1=>xs.length≤sizeLine∧∀p,H1 p=none→Q (.ref p) (upd H1 p (.lst xs))
theorem FY{x1}(h:PA X es t):PE X (.Tuple es x1 pos) (Jq t):=by intro pins s σ H Q I hq;refine wpAny_Tuple_spliced (J6 (h pos pins s σ H _ I hq) fun us s1 ⟨xs,H1,I1,r,z,q⟩=>⟨by rw[← r.length];exact z,?_⟩);have hf:H1 s1.heap.objs.size=none:=I1.hok.fresh (acg _);refine⟨.ref s1.heap.objs.size,upd H1 s1.heap.objs.size (.tup xs),I1.laid (t':=s1.toks) (fun b u e=>Heap.get?_push_of_some _ e) (acg _) ?_,rfl,q _ hf⟩;exact⟨z,us,r,⟨_,Heap.get?_push_size _ rfl,rfl,_,rfl⟩⟩
theorem Az(h:PA X es t):PE X (.List es pos) (Jx t):=by intro pins s σ H Q I hq;refine wpAny_List_spliced (J6 (h pos pins s σ H _ I hq) fun us s1 ⟨xs,H1,I1,r,z,q⟩=>⟨by rw[← r.length];exact z,?_⟩);have hf:H1 s1.heap.objs.size=none:=I1.hok.fresh (acg _);refine⟨.ref s1.heap.objs.size,upd H1 s1.heap.objs.size (.lst xs),I1.laid (t':=s1.toks) (fun b u e=>Heap.get?_push_of_some _ e) (acg _) ?_,rfl,q _ hf⟩;exact⟨z,us,0,r,Heap.get?_push_size _ rfl⟩
end
abbrev Sp:=List V→Hp→VK→XK→Prop
abbrev S_:=List Env→Hp→Shared→XK→Value→Shared→Prop
structure wk(P:Program)(w:World)(K:W.Frag)(mg:Str→Option Value)(base:Heap)(A:Around)(outer:List Env)(s:Shared)(H:Hp):Prop where
 frames:A.frames=some outer
 mod:Mod K mg base
 bs:∀b o,base.get? b=some o→s.heap.get? b=some o∧H b=none
 Tg:base.objs.size≤s.heap.objs.size
 Pk:s.heap.FunFrames base outer
 Ud:∀b∈frs outer,H b=none
 hok:Ob P w H s.heap
 bare:AllBare s.gens
def CE(outer:List Env)(P:Program)(w:World)(H:Hp)(s:Shared)(Q:VK)(u:Value)(s':Shared):Prop:=
 ∃v H',s'.os=s.os∧AllBare s'.gens∧Un (frs outer) [] H H' s.heap s'.heap∧Ob P w H' s'.heap∧bB v u∧Q v H'
def CR(CX:S_)(outer:List Env)(P:Program)(w:World)(H:Hp)(s:Shared)(Q:VK)(E:XK)(r:Result)(s':Shared):Prop:=
 match r with
 |.ok (.ret u)=>CE outer P w H s Q u s'
 |.ok _=>False
 |.error e=>CX outer H s E e s'
structure dE(P:Program)(w:World)(K:W.Frag)(mg:Str→Option Value)(base:Heap)(CX:S_)(k:Nat)(f:Addr)(fd:FuncData)(ps:List Str)(sp:Sp):Prop where
 len:∀vs H Q E,sp vs H Q E→vs.length=ps.length
 run:∀(A:Around)(outer:List Env)(s:Shared)(H:Hp)(args:Args)(us:List Value)(vs:List V)(Q:VK)(E:XK),cX k A→wk P w K mg base A outer s H→BindsTo s fd args (ps.zip us)→bh vs us→sp vs H Q E→
  codeAny (model P w) A (.call (.ref f) args) (CR CX outer P w H s Q E) s
theorem dE.imp{P:Program}{w:World}{K:W.Frag}{mg:Str→Option Value}{base:Heap}{CX:S_}{k:Nat}{f:Addr}{fd:FuncData}{ps:List Str}{sp sp':Sp}(F:dE P w K mg base CX k f fd ps sp)
  (h:∀vs H Q E,sp' vs H Q E→sp vs H Q E):dE P w K mg base CX k f fd ps sp':=
 ⟨fun vs H Q E q=>F.len vs H Q E (h _ _ _ _ q),fun A outer s H args us vs Q E hr he hb hv hs=>F.run A outer s H args us vs Q E hr he hb hv (h _ _ _ _ hs)⟩
theorem wk.make{P:Program}{w:World}{K:W.Frag}{mg:Str→Option Value}{base:Heap}{A:Around}{outer:List Env}{s:Shared}{H:Hp}(e:wk P w K mg base A outer s H)(C:Addr)(us:List Value)(kw:List (Str×Value)):
  wk P w K mg base (A.under (.builtin "type.__call__" ⟨.ref C::us,kw⟩)) outer s H:=⟨by first|exact e.frames|(simpa[Around.under,Code.envs,Code.isFrame,pushEnvs]using e.frames),e.mod,e.bs,e.Tg,e.Pk,e.Ud,e.hok,e.bare⟩
section
variable{X:Cx}{pins:List (Addr×Obj)}{σ:St}{H:Hp}{s s':Shared}
theorem Inv.env0(I:Inv X pins σ H s):wk X.prog X.w X.K X.mg X.base X.A X.stack s H:=
 ⟨I.ok.frames,I.ok.mod,I.bs,Nat.le_trans I.ok.Tg I.sz,I.stack,I.N7,I.hok,I.bare⟩
theorem Inv.after{Q:VK}{u:Value}(I:Inv X pins σ H s)(h:CE X.stack X.prog X.w H s Q u s'):EP X pins σ Q u s':=by obtain⟨v,H',os,bare,un,hok,r,q⟩:=h;obtain⟨hh,g,d,t,os'⟩:=s';obtain rfl:os'=s.os:=os;exact⟨v,H',I.call (h':=hh) (g':=g) (d':=d) (t':=t) (ch:=[]) un hok bare (fun b z=>absurd z (by simp)),r,q⟩
end
noncomputable def Hq(sp:Sp)(Vc:List V)(E:XK)(t:TA):TE:=fun σ H Q=>t σ H fun vs H1=>sp (vs++Vc) H1 Q E
def fh(K:W.Frag)(fd:FuncData)(ps:List Str)(ds:List Value):Prop:=
 ∀(s:Shared)(us:List Value),K.In s.heap→(us++ds).length=ps.length→BindsTo s fd ⟨us,[]⟩ (ps.zip (us++ds))
theorem fh.all{K:W.Frag}{fd:FuncData}{ps:List Str}(h:∀us:List Value,us.length=ps.length→bindArgs fd ⟨us,[]⟩=pure (ps.zip us)):fh K fd ps []:=fun s us _ hl=>by rw[List.append_nil]at hl ⊢;exact .of_eq (h us hl)
def fE(CX:S_)(X:Cx)(E:XK):Prop:=∀(pins:List (Addr×Obj))(σ:St)(H:Hp)(s:Shared)(e:Value)(s':Shared),Inv X pins σ H s→CX X.stack H s E e s'→X.xe e s'
section
variable{X:Cx}{CX:S_}{k:Nat}{f C:Addr}{fd:FuncData}{ps:List Str}{sp:Sp}{Vc:List V}{ds:List Value}{E:XK}{x m:Str}{p pos apos:Pos}{e o:Expr}{es:List Expr}{ta:TE}{t:TA}
theorem Ft{pins:List (Addr×Obj)}{σ:St}{H:Hp}{s:Shared}{Q:VK}{us:List Value}{vs:List V}(F:dE X.prog X.w X.K X.mg X.base CX k f fd ps sp)(hr:cX k X.A)(hb:fh X.K fd ps ds)(hd:bh Vc ds)(hx:fE CX X E)
  (I:Inv X pins σ H s) (r:bh vs us) (h:sp (vs++Vc) H Q E):wpAny (model X.prog X.w) X.A (call (.ref f) us) (EP X pins σ Q) X.xe s:=by
 have r2:bh (vs++Vc) (us++ds):=r.append hd;have hl:(us++ds).length=ps.length:=by rw[← r2.length];exact F.len _ _ _ _ h
 refine wpAny_call (codeAny_mono (F.run X.A X.stack s H ⟨us,[]⟩ (us++ds) (vs++Vc) Q E hr I.env0 (hb s us I.Qq hl) r2 h) fun r s' hq=>?_)
 cases r with
 |error e=>exact hx pins σ H s e s' I hq
 |ok fl=>
  cases fl with
  |ret u=>exact I.after hq
  |next=>exact False.elim hq
  |brk=>exact False.elim hq
  |cont=>exact False.elim hq
theorem xk(F:dE X.prog X.w X.K X.mg X.base CX k f fd ps sp)(hr:cX k X.A)(hg:Gl X x)(hm:X.mg x=some (.ref f))(hk:W.keepIn X.K (.ref f)=true)(hb:fh X.K fd ps ds)(hd:bh Vc ds)(hx:fE CX X E)
  (ha:PA X (e::es) t) (O1:nD0 x:=by decide)(he:sE0 X e es:=by rfl) (Ng:sP0 X es pos:=by rfl):
  PE X (.Call (.Name x p) (e::es) [] pos) (Hq sp Vc E t):=by
 intro pins s σ H Q I h;refine wpAny_Call_Name_kw (nA I hg hm ?_ O1);refine W.callWith_K (h₀:=X.base) I.ok.mod.NQ hk (J6 (ha pos pins s σ H _ I h) fun us s1 ⟨vs,H1,I1,r,q⟩=>⟨I1.Qq,?_⟩) he Ng;exact Ft F hr hb hd hx I1 r q
end
def PK(X:Cx)(kws:List Keyword)(t:TA):Prop:=
 ∀(pos:Pos)(pins:List (Addr×Obj))(s:Shared)(σ:St)(H:Hp)(Q:List V→Hp→Prop),Inv X pins σ H s→t σ H Q→wpAny (model X.prog X.w) X.A (evalAll ((backToKw pos (keywordEach kws X.env)).map (·.2))) (AP X pins σ Q) X.xe s
structure gY(N P:List Str)(sc:Scope):Prop where
 kind:sc.kind=.function
 co:sc.isCoroutine=false
 gen:sc.isGenerator=false
 nd:N.Nodup
 pre:N.take P.length=P
 par:∀x∈P,sc.names.lookup x=some .local∨sc.names.lookup x=some .cell
 Vp:∀y∈sc.names,y.2≠.free
theorem qG{kindOf:Str→Option NameKind}{x:Str}:∀{binds:List (Str×Value)}{m:Str→Option Value},(∀v,(x,v)∉binds)→bindL kindOf binds m x=m x
 |[],_,_=>rfl
 |(n,v)::r,m,h=>by
  unfold bindL;rw[qG fun w hw=>h w (List.mem_cons_of_mem _ hw)]
  split
  ·have:x≠n:=by rintro rfl;exact h v List.mem_cons_self
   simp[this]
  ·rfl
theorem qI{kindOf:Str→Option NameKind}{x:Str}:∀{binds:List (Str×Value)}{m:Str→Option Value},(∀v,(x,v)∉binds)→bindC kindOf binds m x=m x
 |[],_,_=>rfl
 |(n,v)::r,m,h=>by
  unfold bindC;rw[qI fun w hw=>h w (List.mem_cons_of_mem _ hw)]
  split
  ·rfl
  ·have:x≠n:=by rintro rfl;exact h v List.mem_cons_self
   simp[this]
theorem qH{kindOf:Str→Option NameKind}{x:Str}{v:Value}:∀{P:List Str}{vs:List Value}{i:Nat}{m:Str→Option Value},P.Nodup→P[i]? =some x→vs[i]? =some v→kindOf x=some .local→
  bindL kindOf (P.zip vs) m x=some v
 |[],_,_,_,_,h,_,_=>by simp at h
 |_::_,[],_,_,_,_,h,_=>by simp at h
 |p::P,w::vs,0,m,nd,h1,h2,hk=>by simp at h1 h2;subst h1;subst h2;show bindL kindOf ((p,w)::P.zip vs) m p=_;unfold bindL;rw[qG fun v hv=>(List.nodup_cons.mp nd).1 (List.of_mem_zip hv).1,if_pos hk];simp
 |p::P,w::vs,i+1,m,nd,h1,h2,hk=>by show bindL kindOf ((p,w)::P.zip vs) m x=_;unfold bindL;exact qH (i:=i) (List.nodup_cons.mp nd).2 (by simpa using h1) (by simpa using h2) hk
theorem qJ{kindOf:Str→Option NameKind}{x:Str}{v:Value}:∀{P:List Str}{vs:List Value}{i:Nat}{m:Str→Option Value},P.Nodup→P[i]? =some x→vs[i]? =some v→kindOf x≠some .local→
  bindC kindOf (P.zip vs) m x=some v
 |[],_,_,_,_,h,_,_=>by simp at h
 |_::_,[],_,_,_,_,h,_=>by simp at h
 |p::P,w::vs,0,m,nd,h1,h2,hk=>by simp at h1 h2;subst h1;subst h2;show bindC kindOf ((p,w)::P.zip vs) m p=_;unfold bindC;rw[qI fun v hv=>(List.nodup_cons.mp nd).1 (List.of_mem_zip hv).1,if_neg hk];simp
 |p::P,w::vs,i+1,m,nd,h1,h2,hk=>by show bindC kindOf ((p,w)::P.zip vs) m x=_;unfold bindC;exact qJ (i:=i) (List.nodup_cons.mp nd).2 (by simpa using h1) (by simpa using h2) hk
noncomputable def io(N:List Str)(vs:List V):St:=vs.map some++List.replicate (N.length - vs.length) none
noncomputable def jH(CX:S_)(P:Program)(w:World)(K:W.Frag)(mg:Str→Option Value)(base:Heap)(N:List Str)(C_:Str)(scope:Scope)(f:Addr)(cd:Value)(A:Around)(outer:List Env)(s:Shared)(H:Hp)(E:XK):Cx where
 prog:=P
 w:=w
 K:=K
 mg:=mg
 base:=base
 A:=A.deeper (envOfC C_ scope s.heap.objs.size f cd)
 N:=N
 s₀:=s
 H₀:=H
 env:=envOfC C_ scope s.heap.objs.size f cd
 outer:=outer
 stack:=envOfC C_ scope s.heap.objs.size f cd::outer
 ex:=[]
 calm:=true
 fn:=fun _=>true
 pn:=[]
 xe:=fun e s'=>wpAny (model P w) (A.deeper (envOfC C_ scope s.heap.objs.size f cd)) (leaving (envOfC C_ scope s.heap.objs.size f cd) e) (fun _ Qt=>CX outer H s E e Qt) (fun e' Qt=>CX outer H s E e' Qt) s'
theorem uN{sc:Scope}{n:Nat}{x:Str}(h:sc.names.lookup x=some .cell):∃c,(cellsFrom n sc.names []).lookup x=some c:=by have q:=W.cellsFrom_some sc.names n [] (.inl h);exact Option.isSome_iff_exists.mp q
theorem yO{CX:S_}{P:Program}{w:World}{K:W.Frag}{mg:Str→Option Value}{base:Heap}{N ps:List Str}{C_:Str}{scope:Scope}{f:Addr}{cd:Value}{A:Around}{outer:List Env}{s s1:Shared}{H:Hp}{E:XK}{us:List Value}{vs:List V}
  (S:gY N ps scope) (hd:A.handled=none) (e0:wk P w K mg base A outer s H) (hl:vs.length=ps.length) (r:bh vs us)
  (x:InCallC s s.heap.objs.size (bindL (envOfC C_ scope s.heap.objs.size f cd).kindOf (ps.zip us) fun _=>none) (cellsFrom (s.heap.objs.size+1) scope.names []) (bindC (envOfC C_ scope s.heap.objs.size f cd).kindOf (ps.zip us) fun _=>none) s1):
  Inv (jH CX P w K mg base N C_ scope f cd A outer s H E) [] (io N vs) H s1:=by
 have Ng:ps.length≤N.length:=by have:=congrArg List.length S.pre;rw[List.length_take]at this;omega
 obtain⟨h1,tk,rfl,hk⟩:=x.done;have Wx:∀b:Addr,b∉(jH CX P w K mg base N C_ scope f cd A outer s H E).ex:=fun b z=>absurd (show b∈([]:List Addr)from z) (by simp)
 refine⟨⟨e0.mod,S.kind,rfl,rfl,acg _,fun y z c h1 h2=>?_,fun y hy=>?_,fun y c _ h=>?_,fun _=>hd,Around.frames_deeper e0.frames,.inr ⟨rfl,rfl⟩,fun b z=>absurd z (Wx b),e0.bs,e0.Tg,fun b _ _=>Wx b,fun b z=>absurd z (Wx b),e0.Pk,e0.Ud⟩,
  rfl,e0.bare,Un.kept hk,⟨_,x.toInCall.ns,fun i y v h1 h2 h3=>?_⟩,fun y c h=>⟨_,x.cell y c h⟩,e0.hok.fresh (acg _),fun y c h=>?_,fun p hp=>absurd (show p∈([]:List (Addr×Obj))from hp) (by simp),e0.hok.kept hk,?_⟩
 ·exact name_of_addr x.apart (PySem.mem_of_lookup h1) (PySem.mem_of_lookup h2)
 ·have hy:scope.names.lookup y=some .cell∨scope.names.lookup y=some .free:=hy;rcases hy with hy|hy
  ·exact uN hy
  ·exact absurd rfl (S.Vp _ (PySem.mem_of_lookup hy))
 ·exact Nat.le_of_lt (x.above y c (PySem.mem_of_lookup h))
 ·have hi:i<vs.length:=by
   unfold io at h2
   by_cases hi:i<vs.length
   ·exact hi
   ·rw[List.getElem?_append_right (by simpa using hi)]at h2;rw[List.getElem?_replicate]at h2
    split at h2<;>cases h2
  have ha:vs[i]? =some v:=by
   unfold io at h2;rw[List.getElem?_append_left (by simpa using hi),List.getElem?_map]at h2
   cases e:vs[i]? with
   |none=>rw[e]at h2;cases h2
   |some a=>rw[e]at h2;cases h2;rfl
  obtain⟨u,hu,rv⟩:=r.get ha
  have hp:ps[i]? =some y:=by rw[← S.pre,List.getElem?_take_of_lt (by omega)];exact h1
  have ndP:ps.Nodup:=by rw[← S.pre];exact S.nd.sublist (List.take_sublist _ _)
  refine⟨u,rv,?_⟩;rcases S.par y (List.mem_of_getElem? hp)with k|k
  ·exact .inl ⟨k,qH ndP hp hu k⟩
  ·obtain⟨c,e⟩:=uN (n:=s.heap.objs.size+1) k;refine .inr ⟨.inl k,c,e,?_⟩;have q:=x.cell y c e;rw[qJ ndP hp hu (by show scope.names.lookup y≠_;rw[k];decide)]at q;exact q
 ·exact e0.hok.fresh (Nat.le_of_lt (x.above y c (PySem.mem_of_lookup h)))
 ·unfold io;show _=N.length;rw[List.length_append,List.length_map,List.length_replicate];omega
theorem By{CX:S_}{P:Program}{w:World}{K:W.Frag}{mg:Str→Option Value}{base:Heap}{k:Nat}{f:Addr}{name C_:Str}{params:Arguments}{body:List Stmt}{scope:Scope}{dV kV doc pm Mg ct oc:Value}{an od:Option Addr}
  {Qv:Array (Option Value)} {N ps:List Str} {sp:Sp} (lk:K.lookup f=some ⟨oc,od,.func (W.fnOf name C_ params body scope dV kV doc pm an Mg ct),Qv⟩) (Qw:W.codeIn K Mg C_=true) (S:gY N ps scope)
  (len:∀vs H Q E,sp vs H Q E→vs.length=ps.length)
  (TJ:∀(A:Around)(outer:List Env)(s:Shared)(H:Hp)(vs:List V)(Q:VK)(E:XK),cX k (A.deeper (envOfC C_ scope s.heap.objs.size f Mg))→sp vs H Q E→
   ∃t,Q0 (jH CX P w K mg base N C_ scope f Mg A outer s H E) body t∧t { nx:=fun _ H'=>Q .non H',rt:=Q } (io N vs) H):
  dE P w K mg base CX (k+1) f (W.fnOf name C_ params body scope dV kV doc pm an Mg ct) ps sp:=by
 refine⟨len,fun A outer s H args us vs Q E hr e0 hb r U8=>?_⟩;have hl:=len _ _ _ _ U8;have KX:K.In s.heap:=e0.mod.NQ.keeps fun b o e=>(e0.bs b o e).1;have lim:s.heap.NoLimit:=e0.mod.nolimit.keeps fun b o e=>(e0.bs b o e).1
 have W0:∀y∈ps.zip us,scope.names.lookup y.1=some .local∨(scope.names.lookup y.1=some .cell∧((cellsFrom (s.heap.objs.size+1) scope.names []).lookup y.1).isSome=true):=fun⟨n,v⟩ hy=>by
  rcases S.par n (List.of_mem_zip hy).1 with q|q
  ·exact .inl q
  ·exact .inr ⟨q,W.cellsFrom_some _ _ _ (.inl q)⟩
 refine codeAny_call_function hr.depth (KX _ _ lk) rfl S.co S.gen rfl (W.codeRec_of KX Qw) (hb _ _ _ _ ?_);refine wpAny_newFunctionEnv_cells S.kind W0 fun env he s1 x=>?_;subst he;refine⟨lim.keeps x.toInCall.keep,codeAny_func ?_⟩;obtain⟨t,ht,hq⟩:=TJ A outer s H vs Q E (hr.deeper _) U8;have I:Inv (jH CX P w K mg base N C_ scope f Mg A outer s H E) [] (io N vs) H s1:=yO S hr.hd e0 hl r x;refine wpAny_mono (ht [] s1 (io N vs) H _ I hq) (fun fl s' hs=>?_) fun e s' hs=>hs
 have fin:∀{σ':St}{H':Hp}{v:V}{u:Value},Inv (jH CX P w K mg base N C_ scope f Mg A outer s H E) [] σ' H' s'→bB v u→Q v H'→CE outer P w H s Q u s':=
  fun{σ' H' v u} J rv q=>⟨v,H',J.os,J.bare,J.base,J.hok,rv,q⟩
 cases fl with
 |ret u=>obtain⟨v,σ',H',J,rv,q⟩:=hs;exact fin J rv q
 |next=>obtain⟨σ',H',J,q⟩:=hs;exact fin (v:=V.non) (u:=Value.none) J rfl q
 |brk=>obtain⟨_,_,_,q⟩:=hs;exact False.elim q
 |cont=>obtain⟨_,_,_,q⟩:=hs;exact False.elim q
section
variable{X:Cx}{x:Str}{p pos:Pos}{e:Expr}{es:List Expr}{t:TA}{id T:String}{r:List V→Hp→VK→Prop}
noncomputable def Ym(r:List V→Hp→VK→Prop)(t:TA):TE:=fun σ H Q=>t σ H fun vs H1=>r vs H1 Q
theorem AC(hc:dZ X (.builtin id) r)(hg:Gl X x)(hm:X.mg x=none)(hv:bootBuiltins x=some (.builtin id))(ha:PA X (e::es) t)(hn:x≠"__name__":=by decide)(O1:nD0 x:=by decide)
  (he:sE0 X e es:=by rfl) (Ng:sP0 X es pos:=by rfl):PE X (.Call (.Name x p) (e::es) [] pos) (Ym r t):=by
 intro pins s σ H Q I h;refine wpAny_Call_Name_kw (ig I hg hm hv ?_ hn O1);exact PyProof.Rows.callWith_builtin1 (J6 (ha pos pins s σ H _ I h) (by rintro us s1 ⟨vs,H1,I1,r1,q1⟩;exact hc pins s1 σ H1 vs us Q I1 r1 q1)) he Ng
theorem yu(hc:dZ X (.type T) r)(hg:Gl X x)(hm:X.mg x=none)(hv:bootBuiltins x=some (.type T))(ha:PA X (e::es) t)(hn:x≠"__name__":=by decide)(O1:nD0 x:=by decide)
  (he:sE0 X e es:=by rfl) (Ng:sP0 X es pos:=by rfl):PE X (.Call (.Name x p) (e::es) [] pos) (Ym r t):=by
 intro pins s σ H Q I h;refine wpAny_Call_Name_kw (ig I hg hm hv ?_ hn O1);exact PyProof.Rows.callWith_type1 (J6 (ha pos pins s σ H _ I h) (by rintro us s1 ⟨vs,H1,I1,r1,q1⟩;exact hc pins s1 σ H1 vs us Q I1 r1 q1)) he Ng
end
end L2
namespace HT
open PySem PyProof.Rows
section
variable{prog:Program}{w:World}{A:Around}{E:Value→Shared→Prop}{s:Shared}
theorem UW{t b:Addr}{vs ws:List Value}{Q:Value→Shared→Prop}(ht:IsTup s.heap t vs.toArray)(hb:IsTup s.heap b ws.toArray)(hv:vs≠ [])
  (h1:ws= []→Q (.ref t) s) (h2:ws≠ []→Q (.ref s.heap.objs.size) { s with heap:=s.heap.push { cls:=.type "tuple",data:=.seq (vs++ws).toArray } })
  (hsz:vs.length+ws.length≤sizeLine):wpAny (model prog w) A (binaryOp .Add (.ref t) (.ref b)) Q E s:=by
 obtain⟨⟨cls,dd,data,sl⟩,ho,hc,n,hd⟩:=id ht;obtain⟨⟨ac4,dd2,data2,Xp⟩,V8,XQ,n2,hd2⟩:=id hb;simp only at hc hd XQ hd2;subst hc hd XQ hd2;have e:vs.toArray++ws.toArray=(vs++ws).toArray:=by simp
 by_cases hw:ws= []
 ·exact concat_meets ⟨_,ho,rfl⟩ ⟨_,V8,rfl⟩ noFill_tuple_add seq_tuple_add PySem.F.slot_tuple_add PySem.F.entry_tuple_add (PySem.F.args_tuple_add_2 _ _)
   (tuple_addW1 t b vs.toArray ws.toArray n n2 dd dd2 sl Xp (by simpa using hv) (by simp[hw])) ⟨ho,V8,h1 hw⟩
 ·refine concat_meets ⟨_,ho,rfl⟩ ⟨_,V8,rfl⟩ noFill_tuple_add seq_tuple_add PySem.F.slot_tuple_add PySem.F.entry_tuple_add (PySem.F.args_tuple_add_2 _ _)
   (tuple_addW2 t b vs.toArray ws.toArray n n2 dd dd2 sl Xp (by simpa using hv) (by simpa using hw) (by rw[List.size_toArray,List.size_toArray];exact hsz)) ⟨ho,V8,?_⟩
  rw[e];exact h2 hw
noncomputable def J7(n d:Nat):Option Int→Nat
 |none=>d
 |some v=>if v<0 then(v+(n:Int)).toNat else min v.toNat n
theorem Rj(n d:Nat):J7 n d none=d:=rfl
theorem Q_(n d k:Nat):J7 n d (some (k:Int))=min k n:=by show(if(k:Int)<0 then((k:Int)+(n:Int)).toNat else min (k:Int).toNat n)=min k n;rw[if_neg (by omega),Int.toNat_natCast]
theorem RQ(n d:Nat)(hd:d≤n)(o:Option Int):J7 n d o≤n:=by
 cases o with
 |none=>exact hd
 |some v=>
  show(if v<0 then(v+(n:Int)).toNat else min v.toNat n)≤n
  by_cases hv:v<0
  ·rw[if_pos hv];omega
  ·rw[if_neg hv];exact Nat.min_le_right _ _
theorem xJ(v:Int)(n d:Nat):(if v<0 then max (v+(n:Int)) 0 else min v (n:Int))=((J7 n d (some v):Nat):Int):=by
 show(if v<0 then max (v+(n:Int)) 0 else min v (n:Int))=(((if v<0 then(v+(n:Int)).toNat else min v.toNat n):Nat):Int)
 by_cases hv:v<0
 ·simp only[if_pos hv];omega
 ·simp only[if_neg hv];omega
theorem wf(lo hi:Option Int)(n:Nat):Builtin.Slice.sliceAdjust lo hi 1 (n:Int)=(((J7 n 0 lo:Nat):Int),((J7 n n hi:Nat):Int)):=by
 have h1:¬ ((1:Int)<0):=by omega
 unfold Builtin.Slice.sliceAdjust;simp only[h1,if_false];refine Prod.ext ?_ ?_
 ·cases lo with
  |none=>rfl
  |some v=>exact xJ v n 0
 ·cases hi with
  |none=>rfl
  |some v=>exact xJ v n n
theorem vA(i j:Nat):Builtin.Slice.slicePlaces (i:Int) (j:Int) 1=j - i:=by
 unfold Builtin.Slice.slicePlaces;have h1:(1:Int)>0:=by omega
 simp only[h1,if_true,Int.ediv_one]
 split<;>omega
theorem nR{v:Value}{o:Option Int}{Q:Option Int→Shared→Prop}(p:IsPart v o)(h:Q o s):wpAny (model prog w) A (Builtin.Slice.slicePartIndex v) Q E s:=by
 cases p with
 |none=>exact slicePart_none h
 |int i t=>exact slicePart_int h
theorem ir{sl:Addr}{vl vu:Value}{lo hi:Option Int}{n:Nat}{Q:Int×Int×Nat→Shared→Prop}(hs:s.heap.IsSliceOf sl vl vu .none)(pl:IsPart vl lo)(pu:IsPart vu hi)
  (h:Q (((J7 n 0 lo:Nat):Int),1,J7 n n hi - J7 n 0 lo) s):wpAny (model prog w) A (Builtin.Slice.sliceApplied (.ref sl) (pure (n:Int))) Q E s:=by
 obtain⟨os,Uv,XM,W3⟩:=id hs;unfold Builtin.Slice.sliceApplied Builtin.Slice.sliceFields;refine wpAny_bind (wpAny_bind (wpAny_field Uv W3 (x:=vl) rfl (wpAny_bind (wpAny_field Uv W3 (x:=vu) rfl (wpAny_bind (wpAny_field Uv W3 (x:=.none) rfl (wpAny_pure ?_)))))));refine wpAny_bind (slicePart_none ?_);show wpAny _ _ (if((1:Int)==0)=true then _ else _) _ _ s;rw[if_neg (by decide)];refine wpAny_bind (nR pl (wpAny_bind (nR pu (wpAny_bind (wpAny_pure ?_)))));show wpAny _ _ (match Builtin.Slice.sliceAdjust lo hi 1 (n:Int)with|(lo,hi)=>pure (lo,(1:Int),Builtin.Slice.slicePlaces lo hi 1)) _ _ s;rw[wf lo hi n];show wpAny _ _ (pure (((J7 n 0 lo:Nat):Int),(1:Int),Builtin.Slice.slicePlaces ((J7 n 0 lo:Nat):Int) ((J7 n n hi:Nat):Int) 1)) _ _ s;rw[vA];exact wpAny_pure h
theorem As(xs:Array Value)(i k:Nat):((List.range k).filterMap fun(m:Nat)=>xs[((i:Int)+(m:Int) * 1).toNat]?).toArray=((xs.toList.drop i).take k).toArray:=by
 have e:(fun(m:Nat)=>xs[((i:Int)+(m:Int) * 1).toNat]?)=fun m=>xs[i+m]? :=by
  funext m
  have:((i:Int)+(m:Int) * 1).toNat=i+m:=by omega
  rw[this]
 rw[e];have:=pick_run xs i k;rw[List.filterMap_map]at this;have e2:((fun x=>xs[x]?)∘fun x=>i+x)=fun m=>xs[i+m]? :=rfl;rw[e2]at this;rw[this]
theorem PL{t sl:Addr}{items:Array Value}{vl vu:Value}{lo hi:Option Int}{Q:Value→Shared→Prop}(ht:IsTup s.heap t items)(hs:s.heap.IsSliceOf sl vl vu .none)(pl:IsPart vl lo)(pu:IsPart vu hi)
  (hw:¬ (J7 items.size 0 lo=0∧J7 items.size items.size hi=items.size))
  (h:Q (.ref s.heap.objs.size) { s with heap:=s.heap.push { cls:=.type "tuple",data:=.seq ((items.toList.drop (J7 items.size 0 lo)).take (J7 items.size items.size hi - J7 items.size 0 lo)).toArray } })
  (hsz:items.size≤sizeLine):wpAny (model prog w) A (getItem (.ref t) (.ref sl)) Q E s:=by
 have Sw:sizeOk (.seq ((items.toList.drop (J7 items.size 0 lo)).take (J7 items.size items.size hi - J7 items.size 0 lo)).toArray):=by show((items.toList.drop (J7 items.size 0 lo)).take (J7 items.size items.size hi - J7 items.size 0 lo)).toArray.size≤sizeLine;rw[List.size_toArray,List.length_take,List.length_drop,Array.length_toList];omega
 have hj:J7 items.size items.size hi≤items.size:=RQ _ _ (Nat.le_refl _) hi;obtain⟨os,Uv,XM,W3⟩:=id hs;have Zj:s.TypeIs (.ref sl) "slice":=⟨os,Uv,XM⟩
 unfold getItem
 try with_reducible refine wpAny_holding ?_
 first|refine wpAny_bind (wpAny_pure ?_)|skip
 refine wpAny_bind (wpAny_sequenceKey ht.typeIs (by decide) ?_)
 refine wpAny_bind (wpAny_callSpecial?_slot (name:=Str.ofString "__getitem__") ht.typeIs PyProof.Rows.slot_tuple_getitem
  (wpAny_call_entry PyProof.Rows.slot_tuple_getitem ht.typeIs entry_tuple_getitem ?_ (args_tuple_getitem _ _)))
 show wpAny _ _ (Builtin.Tuple.tupleItemsOf (.ref t) >>= _) _ _ s;refine wpAny_bind (tupleItemsOf_ ht ?_);refine wpAny_bind (wpAny_typeOf Zj ?_);rw[if_pos (by decide)];refine wpAny_bind (ir hs pl pu ?_)
 have Y4:¬ ((((J7 items.size 0 lo:Nat):Int)==0&&(1:Int)==1&&(J7 items.size items.size hi - J7 items.size 0 lo)==items.size)=true):=by intro q;rw[Bool.and_eq_true,Bool.and_eq_true]at q;have q1:((J7 items.size 0 lo:Nat):Int)=0:=eq_of_beq q.1.1;have q2:J7 items.size items.size hi - J7 items.size 0 lo=items.size:=eq_of_beq q.2;exact hw ⟨by omega,by omega⟩
 show wpAny _ _ (if(((J7 items.size 0 lo:Nat):Int)==0&&(1:Int)==1&&(J7 items.size items.size hi - J7 items.size 0 lo)==items.size)=true then _ else _) _ _ s;rw[if_neg Y4,As]
 first
  |exact wpAny_bind (m:=Builtin.Tuple.tupleExact _) (wpAny_newObj_type (wpAny_pure ⟨_,rfl,wpAny_pure h⟩) Sw)
  |exact wpAny_bind (m:=Builtin.Tuple.tupleExact _) (wpAny_newObj_type (wpAny_bind (wpAny_pure (wpAny_pure ⟨_,rfl,wpAny_pure h⟩))) Sw)
  |exact wpAny_bind (wpAny_bind (m:=Builtin.Tuple.tupleExact _) (wpAny_newObj_type (wpAny_pure (wpAny_pure ⟨_,rfl,wpAny_pure h⟩)) Sw))
  |exact wpAny_bind (wpAny_bind (m:=Builtin.Tuple.tupleExact _) (wpAny_newObj_type (wpAny_pure ⟨_,rfl,wpAny_pure h⟩) Sw))
end
end HT
namespace L2
open PySem PySem.Spec PyProof.Rows
abbrev TO:=St→Hp→(Option Int→Hp→Prop)→Prop
def PO(X:Cx)(e:Option Expr)(t:TO):Prop:=
 ∀(pins:List (Addr×Obj))(s:Shared)(σ:St)(H:Hp)(Q:Option Int→Hp→Prop),Inv X pins σ H s→t σ H Q→
  wpAny (model X.prog X.w) X.A (evalPart e X.env) (fun u s'=>∃o H',Inv X pins σ H' s'∧IsPart u o∧Q o H') X.xe s
noncomputable def Cs:TO:=fun _ H Q=>Q none H
noncomputable def Hk(t:TE):TO:=fun σ H Q=>t σ H fun x H1=>∃i,x=.int i∧Q (some i) H1
section
variable{X:Cx}{e:Expr}{te:TE}{lo hi:Option Expr}{tl th:TO}{pos p2:Pos}
theorem Da:PO X none Cs:=by intro pins s σ H Q I h;rw[evalPart_none];exact wpAny_pure ⟨none,H,I,.none,h⟩
theorem CZ(h:PE X e te):PO X (some e) (Hk te):=by intro pins s σ H Q I hw;rw[evalPart_some];refine J6 (h pins s σ H _ I hw) ?_;rintro u s1 ⟨x,H1,I1,r1,q1⟩;obtain⟨i,rfl,q⟩:=q1;obtain⟨t,rfl⟩:=r1;exact⟨some i,H1,I1,.int i t,q⟩
def Tj(X:Cx)(r:V→Option Int→Option Int→Hp→VK→Prop):Prop:=
 ∀(pins:List (Addr×Obj))(s:Shared)(σ:St)(H:Hp)(x:V)(v vl vu:Value)(lo hi:Option Int)(sl:Addr)(Q:VK),Inv X pins σ H s→bB x v→s.heap.IsSliceOf sl vl vu .none→IsPart vl lo→IsPart vu hi→r x lo hi H Q→
  ∃T id,typeLookup (.type T) "__getitem__"=pure (some (.builtin id))∧s.TypeIs v T∧wpAny (model X.prog X.w) X.A (getItem v (.ref sl)) (EP X pins σ Q) X.xe s
theorem Tj.or{r r':V→Option Int→Option Int→Hp→VK→Prop}(h:Tj X r)(h':Tj X r'):Tj X (fun x lo hi H Q=>r x lo hi H Q∨r' x lo hi H Q):=by
 intro pins s σ H x v vl vu lo hi sl Q I rx hs pl pu q;rcases q with q|q
 ·exact h pins s σ H x v vl vu lo hi sl Q I rx hs pl pu q
 ·exact h' pins s σ H x v vl vu lo hi sl Q I rx hs pl pu q
noncomputable def tSl(r:V→Option Int→Option Int→Hp→VK→Prop)(te:TE)(tl th:TO):TE:=fun σ H Q=>te σ H fun x H1=>tl σ H1 fun l H2=>th σ H2 fun u H3=>r x l u H3 Q
theorem Ay{r:V→Option Int→Option Int→Hp→VK→Prop}(hr:Tj X r)(he:PE X e te)(hl:PO X lo tl)(hu:PO X hi th):PE X (.Subscript e (.Slice lo hi none p2) pos) (tSl r te tl th):=by intro pins s σ H Q I h;refine Subscript_ (J6 (he pins s σ H _ I h) ?_);rintro v s1 ⟨x,H1,I1,r1,q1⟩;refine wpAny_Slice (J6 (hl pins s1 σ H1 _ I1 q1) fun vl s2 ⟨l,H2,I2,pl,q2⟩=>J6 (hu pins s2 σ H2 _ I2 q2) ?_);rintro vu s3 ⟨u,H3,I3,pu,q3⟩;rw[evalPart_none];refine wpAny_pure ?_;have I4:Inv X pins σ H3 { s3 with heap:=s3.heap.push { cls:=.type "slice",data:=.fields #[vl,vu,.none] } }:=I3.kept (t':=s3.toks) fun b ob q=>Heap.get?_push_of_some _ q;obtain⟨T,id,hT,ht,hg⟩:=hr pins { s3 with heap:=s3.heap.push { cls:=.type "slice",data:=.fields #[vl,vu,.none] } } σ H3 x v vl vu l u s3.heap.objs.size Q I4 r1 (Heap.IsSliceOf.new ..) pl pu q3;show wpAny (model X.prog X.w) X.A (subscriptTail e (.Slice lo hi none p2) v (.ref s3.heap.objs.size)) (EP X pins σ Q) X.xe { s3 with heap:=s3.heap.push { cls:=.type "slice",data:=.fields #[vl,vu,.none] } };exact tail_any (ops:=[.ref s3.heap.objs.size,v]) ht hT hg (by with_unfolding_all rfl)
def uL(xs:List V)(lo hi:Option Int):List V:=(xs.drop (HT.J7 xs.length 0 lo)).take (HT.J7 xs.length xs.length hi - HT.J7 xs.length 0 lo)
theorem mQ(xs:List V)(lo hi:Option Int):(uL xs lo hi).length≤xs.length:=by unfold uL;rw[List.length_take,List.length_drop];omega
def HD(K:W.Frag):V→Option Int→Option Int→Hp→VK→Prop:=fun x lo hi H Q=>∃a xs,x=.ref a∧NP K H a xs∧
 ¬ (HT.J7 xs.length 0 lo=0∧HT.J7 xs.length xs.length hi=xs.length)∧∀p,H p=none→Q (.ref p) (upd H p (.tup (uL xs lo hi)))
theorem Fm:Tj X (HD X.K):=by
 intro pins s σ H x v vl vu lo hi sl Q I rx hs pl pu h;obtain⟨a,xs,rfl,hx,hw,q⟩:=h
 cases rx
 obtain⟨its,r,ht,hz⟩:=I.tuple hx;have Mi:its.toArray.size=xs.length:=by rw[List.size_toArray];exact r.length.symm
 refine⟨"tuple",_,PyProof.Rows.slot_tuple_getitem.lookup,ht.typeIs,?_⟩;refine HT.PL ht hs pl pu (by rw[Mi];exact hw) ?_ (by rw[Mi];exact hz);rw[Mi];refine⟨.ref s.heap.objs.size,_,I.laid (t':=s.toks) (o:=.tup (uL xs lo hi)) (fun b ob q=>Heap.get?_push_of_some _ q) (acg _) ?_,rfl,q _ (I.hok.fresh (acg _))⟩;exact⟨Nat.le_trans (mQ xs lo hi) hz,_,(r.drop (HT.J7 xs.length 0 lo)).take (HT.J7 xs.length xs.length hi - HT.J7 xs.length 0 lo),IsTup.new _ _⟩
def Er(K:W.Frag):R2:=fun x y H Q=>∃a b xs ys,x=.ref a∧y=.ref b∧NP K H a xs∧NP K H b ys∧xs≠ []∧xs.length+ys.length≤sizeLine∧
 (ys= []→Q (.ref a) H)∧(ys≠ []→∀p,H p=none→Q (.ref p) (upd H p (.tup (xs++ys))))
theorem bh.Pz{xs:List V}{us:List Value}(r:bh xs us):us= []↔xs= []:=by
 cases r with
 |nil=>simp
 |cons _ _=>simp
theorem Dk:Nq X (binaryOp .Add) (Er X.K):=by
 intro pins s σ H x y v u Q I rx ry h;obtain⟨a,b,xs,ys,rfl,rfl,ha,hb,hx,hz,q1,q2⟩:=h
 cases rx
 cases ry
 obtain⟨its,r1,p1,_⟩:=I.tuple ha;obtain⟨Us,r2,p2,_⟩:=I.tuple hb;refine HT.UW p1 p2 (fun z=>hx (r1.Pz.mp z)) (fun z=>⟨.ref a,H,I,rfl,q1 (r2.Pz.mp z)⟩) (fun z=>?_) (by rw[← r1.length,← r2.length];exact hz);refine⟨.ref s.heap.objs.size,_,I.laid (t':=s.toks) (o:=.tup (xs++ys)) (fun b ob q=>Heap.get?_push_of_some _ q) (acg _) ?_,rfl,q2 (fun w=>z (r2.Pz.mpr w)) _ (I.hok.fresh (acg _))⟩;exact⟨by rw[List.length_append];exact hz,_,r1.append r2,IsTup.new _ _⟩
end
noncomputable def RD(n:Nat)(i:Int):Option Nat:=if 0≤i then(if i<n then some i.toNat else none)else if -(n:Int)≤i then some (i+n).toNat else none
def Np{α:Type}(xs:List α)(i:Int):Option α:=(RD xs.length i).bind fun j=>xs[j]?
theorem xt{n:Nat}{i:Int}{j:Nat}(h:RD n i=some j):seqIndex? i n=some j∧j<n∧ -(n:Int)≤i∧i<n:=by
 unfold RD at h
 by_cases h0:0≤i
 ·rw[if_pos h0]at h
  by_cases h1:i<n
  ·rw[if_pos h1]at h;have e:i.toNat=j:=Option.some.inj h;exact⟨by rw[seqIndex_of h0 h1,e],by omega,by omega,h1⟩
  ·rw[if_neg h1]at h;cases h
 ·rw[if_neg h0]at h
  by_cases h1: -(n:Int)≤i
  ·rw[if_pos h1]at h;have e:(i+n).toNat=j:=Option.some.inj h;exact⟨by rw[seqIndex_neg (by omega) h1,e],by omega,h1,by omega⟩
  ·rw[if_neg h1]at h;cases h
theorem sN{α:Type}{xs:List α}{i:Int}{v:α}(h:Np xs i=some v):∃j,seqIndex? i xs.length=some j∧xs[j]? =some v∧j<xs.length∧ -(xs.length:Int)≤i∧i<xs.length:=by
 unfold Np at h
 cases e:RD xs.length i with
 |none=>rw[e]at h;cases h
 |some j=>rw[e]at h;obtain⟨h1,h2,h3,h4⟩:=xt e;exact⟨j,h1,h,h2,h3,h4⟩
theorem DV{α:Type}{xs:List α}{j:Nat}{v:α}(h:xs[j]? =some v):Np xs (j:Int)=some v:=by
 have hj:j<xs.length:=(List.getElem?_eq_some_iff.mp h).1
 have e:RD xs.length (j:Int)=some j:=by unfold RD;rw[if_pos (by omega),if_pos (by omega)];simp
 unfold Np;rw[e];exact h
theorem uT{α:Type}(xs:List α)(v:α):Np (xs++ [v]) (-1)=some v:=by
 have hl:(xs++ [v]).length=xs.length+1:=by simp
 have e:RD (xs++ [v]).length (-1)=some xs.length:=by
  unfold RD;rw[hl,if_neg (by decide),if_pos (by omega)]
  congr 1
  omega
 unfold Np;rw[e];show(xs++ [v])[xs.length]? =some v;simp
def DZ(b:Expr):Prop:=∀o i,subscripted b false o i=operate [o,i] (getItem o i)
def T3(X:Cx)(r:R2):Prop:=
 ∀(value slice:Expr)(pins:List (Addr×Obj))(s:Shared)(σ:St)(H:Hp)(x y:V)(v u:Value)(Q:VK),Inv X pins σ H s→bB x v→bB y u→r x y H Q→
  subscripted slice false v u=operate [v,u] (getItem v u)→wpAny (model X.prog X.w) X.A (subscriptTail value slice v u) (EP X pins σ Q) X.xe s
def Xi(X:Cx)(id:String)(r:V→List V→Hp→VK→Prop):Prop:=
 ∀(pins:List (Addr×Obj))(s:Shared)(σ:St)(H:Hp)(x:V)(xs:List V)(v:Value)(us:List Value)(Q:VK),Inv X pins σ H s→bB x v→bh xs us→r x xs H Q→
  wpAny (model X.prog X.w) X.A (call (.builtin id) (v::us)) (EP X pins σ Q) X.xe s
section
variable{X:Cx}{a b:Expr}{ta tb:TE}{pos:Pos}
theorem T3.or{r r':R2}(h:T3 X r)(h':T3 X r'):T3 X (fun x y H Q=>r x y H Q∨r' x y H Q):=by
 intro value slice pins s σ H x y v u Q I rx ry q hs;rcases q with q|q
 ·exact h value slice pins s σ H x y v u Q I rx ry q hs
 ·exact h' value slice pins s σ H x y v u Q I rx ry q hs
theorem HU{r:R2}(hr:T3 X r)(ha:PE X a ta)(hb:PE X b tb)(hs:DZ b):PE X (.Subscript a b pos) (Wi r ta tb):=by intro pins s σ H Q I h;exact Subscript_ (GM ha hb I h fun v u s2 x y H2 I2 rx ry q=>hr a b pins s2 σ H2 x y v u Q I2 rx ry q (hs _ _))
def HL(K:W.Frag):R2:=fun x y H Q=>∃p xs i v,x=.ref p∧y=.int i∧M_ K H p xs∧Np xs i=some v∧Q v H
def HJ(K:W.Frag):R2:=fun x y H Q=>∃p xs i v,x=.ref p∧y=.int i∧NP K H p xs∧Np xs i=some v∧Q v H
def HK:R2:=fun x y H Q=>∃z i c,x=.str z∧y=.int i∧z.length≤sizeLine∧Np z.cps.toList i=some c∧Q (.str ⟨#[c]⟩) H
theorem Dv:T3 X (HL X.K):=by
 intro value slice pins s σ H x y v u Q I rx ry h hs;obtain⟨p,xs,i,z,rfl,rfl,hq,he,q⟩:=h
 cases rx
 obtain⟨t,rfl⟩:=ry;obtain⟨its,r,pl,hz⟩:=I.list hq;obtain⟨j,h1,h2,h3,h4,h5⟩:=sN he;obtain⟨w,ew,Sq⟩:=r.get h2;have hl:=r.length;have hn:=kL;have fin:EP X pins σ Q w s:=⟨z,H,I,Sq,q⟩
 by_cases h0:0≤i
 ·have hj:i.toNat=j:=by rw[seqIndex_of h0 h5]at h1;exact Option.some.inj h1
  exact item_listR pl.isList h0 (by omega) (by rw[hj];simpa using ew) fin hs
 ·have hj:(i+(its.toArray.size:Int)).toNat=j:=by rw[seqIndex_neg (by omega) h4]at h1;rw[List.size_toArray,← hl];exact Option.some.inj h1
  exact subscriptTail_builtinR (x:=w) pl.isList.typeIs slot_list_getitem.lookup
   (wpAny_getItem_list_neg (Q:=fun r s'=>r=w∧EP X pins σ Q r s') pl.isList (by omega) (by rw[List.size_toArray]<;>omega) (by omega) (by rw[hj];simpa using ew) ⟨rfl,fin⟩) hs
theorem Gw:T3 X (HJ X.K):=by
 intro value slice pins s σ H x y v u Q I rx ry h hs;obtain⟨p,xs,i,z,rfl,rfl,hq,he,q⟩:=h
 cases rx
 obtain⟨t,rfl⟩:=ry;obtain⟨its,r,pl,hz⟩:=I.tuple hq;obtain⟨j,h1,h2,h3,h4,h5⟩:=sN he;obtain⟨w,ew,Sq⟩:=r.get h2;have hl:=r.length;have hn:=kL;have fin:EP X pins σ Q w s:=⟨z,H,I,Sq,q⟩
 exact subscriptTail_builtinR (x:=w) pl.typeIs slot_tuple_getitem.lookup
  (getItem_tuple (j:=j) (Q:=fun r s'=>r=w∧EP X pins σ Q r s') pl (by omega) (by omega) (by rw[List.size_toArray,← hl];exact h1) (by simpa using ew) ⟨rfl,fin⟩) hs
theorem Gy:T3 X HK:=by
 intro value slice pins s σ H x y v u Q I rx ry h hs;obtain⟨z,i,c,rfl,rfl,hz,he,q⟩:=h;obtain⟨t,rfl⟩:=rx;obtain⟨t',rfl⟩:=ry;obtain⟨j,h1,h2,h3,h4,h5⟩:=sN he;have hl:z.cps.toList.length=z.length:=by simp[Str.length]
 rw[hl]at h1 h4 h5;have hn:=kL
 exact tail_any (typeIs_str s z t) slot_str_getitem.lookup (getItem_str (c:=c) (by have e1:decide (i< -(2 ^ 63:Int))=false:=decide_eq_false (by omega);have e2:decide (i≥2 ^ 63)=false:=decide_eq_false (by omega);rw[e1,e2,Bool.or_false]) (by rw[h1];simpa using h2) ⟨.str ⟨#[c]⟩,H,I.tok _,⟨_,rfl⟩,q⟩) hs
def rIx(K:W.Frag):R2:=fun x y H Q=>HL K x y H Q∨HJ K x y H Q∨HK x y H Q
theorem Gz:T3 X (rIx X.K):=Dv.or (Gw.or Gy)
theorem vO(its:List Value)(n j:Nat)(u:Value):Obj.mapSeq (·.setIfInBounds j u) { cls:=.type "list",data:=.seq its.toArray n }={ cls:=.type "list",data:=.seq (its.set j u).toArray n }:=by simp[Obj.mapSeq]
theorem Inv.lst{pins:List (Addr×Obj)}{σ:St}{H:Hp}{s:Shared}{p:Addr}{xs:List V}(I:Inv X pins σ H s)(h:H p=some (.lst xs)):
  ∃(its:List Value)(n:Nat),bh xs its∧s.heap.get? p=some { cls:=.type "list",data:=.seq its.toArray n }∧xs.length≤sizeLine:=by
 obtain⟨z,its,n,r,e⟩:=I.hok p _ h;exact⟨its,n,r,e,z⟩
theorem Inv.Vr{pins:List (Addr×Obj)}{σ:St}{H:Hp}{s:Shared}{p:Addr}{xs ys:List V}{its Qe:List Value}{n n':Nat}{f:Obj→Obj}(I:Inv X pins σ H s)(h:H p=some (.lst xs))
  (ho:s.heap.get? p=some { cls:=.type "list",data:=.seq its.toArray n }) (hf:f { cls:=.type "list",data:=.seq its.toArray n }={ cls:=.type "list",data:=.seq Qe.toArray n' }) (r:bh ys Qe) (hz:ys.length≤sizeLine) (t:Nat):
  Inv X pins σ (upd H p (.lst ys)) { s with heap:=s.heap.update p f,toks:=t }:=by
 have e:(s.heap.update p f).get? p=some { cls:=.type "list",data:=.seq Qe.toArray n' }:=by rw[Heap.get?_update_self f ho (by rw[hf]<;>rfl),hf]
 refine I.write (x:=p) (e:=p) (by rw[h];trivial) (.inl rfl) (fun b u hb q=>(Heap.get?_update_other _ _ (Ne.symm hb)).trans q) ⟨_,e⟩ ?_;exact⟨hz,Qe,n',r,e⟩
def HH:V→V→V→Hp→(Hp→Prop)→Prop:=fun o i v H Q=>∃p xs k j,o=.ref p∧i=.int k∧H p=some (.lst xs)∧RD xs.length k=some j∧Q (upd H p (.lst (xs.set j v)))
theorem zF:IO X HH:=by
 intro pins s σ H o i v ov iv u Q I ro ri rv h;obtain⟨p,xs,k,j,rfl,rfl,hp,hj,q⟩:=h
 cases ro
 obtain⟨t,rfl⟩:=ri;obtain⟨its,n,r,ho,hz⟩:=I.lst hp;obtain⟨h1,h2,h3,h4⟩:=xt hj;have hl:=r.length;have hn:=kL
 have I':Inv X pins σ (upd H p (.lst (xs.set j v))) { s with heap:=s.heap.update p (Obj.mapSeq (·.setIfInBounds j u)) }:=
  I.Vr hp ho (vO its n j u) (r.set rv j) (by rw[List.length_set];exact hz) s.toks
 by_cases h0:0≤k
 ·have hk:k.toNat=j:=by rw[seqIndex_of h0 h4]at h1;exact Option.some.inj h1
  exact W.ki_setAt ho h0 (by omega) (by rw[List.size_toArray,← hl];exact h4) (by rw[hk];exact⟨_,I',q⟩)
 ·have hk:(k+(its.toArray.size:Int)).toNat=j:=by rw[seqIndex_neg (by omega) h3]at h1;rw[List.size_toArray,← hl];exact Option.some.inj h1
  exact W.ki_setBack ho (by omega) (by rw[List.size_toArray,← hl];exact h3) (by omega) (by rw[hk];exact⟨_,I',q⟩)
theorem qQ(lo hi:Option Int)(n:Nat):(sliceBounds lo hi none n).1=((HT.J7 n 0 lo:Nat):Int)∧(sliceBounds lo hi none n).2.1=((HT.J7 n n hi:Nat):Int)∧(sliceBounds lo hi none n).2.2=1:=by
 refine⟨?_,?_,rfl⟩
 ·cases lo with
  |none=>simp[sliceBounds,HT.J7]
  |some i=>
   simp only[sliceBounds,HT.J7,Option.getD_none,show(1:Int)>0 by decide,if_true]
   by_cases h:i<0
   ·simp only[h,if_true]<;>omega
   ·simp only[h,if_false]<;>omega
 ·cases hi with
  |none=>simp[sliceBounds,HT.J7]
  |some i=>
   simp only[sliceBounds,HT.J7,Option.getD_none,show(1:Int)>0 by decide,if_true]
   by_cases h:i<0
   ·simp only[h,if_true]<;>omega
   ·simp only[h,if_false]<;>omega
theorem pr(its:List Value)(lo hi:Option Int):slicePick its.toArray lo hi none=((its.drop (HT.J7 its.length 0 lo)).take (HT.J7 its.length its.length hi - HT.J7 its.length 0 lo)).toArray:=by obtain⟨h1,h2,h3⟩:=qQ lo hi its.toArray.size;unfold slicePick;rw[h1,h2,h3];simp only[sliceRange_one,pick_run,List.size_toArray]<;>rfl
def HF(K:W.Frag):V→Option Int→Option Int→Hp→VK→Prop:=fun x lo hi H Q=>∃a xs,x=.ref a∧M_ K H a xs∧∀p,H p=none→Q (.ref p) (upd H p (.lst (uL xs lo hi)))
theorem Cw:Tj X (HF X.K):=by
 intro pins s σ H x v vl vu lo hi sl Q I rx hs pl pu h;obtain⟨a,xs,rfl,hx,q⟩:=h
 cases rx
 obtain⟨its,r,ht,hz⟩:=I.list hx;have Mi:=r.length;refine⟨"list",_,slot_list_getitem.lookup,ht.isList.typeIs,?_⟩;refine wpAny_getItem_list_slice ht.isList hs pl pu .none (by simp) ?_ (by rw[List.size_toArray]<;>omega);rw[pr,← Mi];refine⟨.ref s.heap.objs.size,_,I.laid (t':=s.toks) (o:=.lst (uL xs lo hi)) (fun b ob q=>Heap.get?_push_of_some _ q) (acg _) ?_,rfl,q _ (I.hok.fresh (acg _))⟩;exact⟨Nat.le_trans (mQ xs lo hi) hz,_,0,(r.drop (HT.J7 xs.length 0 lo)).take (HT.J7 xs.length xs.length hi - HT.J7 xs.length 0 lo),Heap.get?_push_size _ rfl⟩
theorem sK:dZ X (.builtin "len") (fun xs H Q=>∃p ys,xs= [.ref p]∧(M_ X.K H p ys∨NP X.K H p ys)∧Q (.int ys.length) H):=by
 intro pins s σ H xs us Q I r h;obtain⟨p,ys,rfl,hq,q⟩:=h;obtain⟨u,rfl,rx⟩:=nJ r
 cases rx
 have hn:=kL;rcases hq with hq|hq
 ·obtain⟨its,r',pl,hz⟩:=I.list hq;have Mi:=r'.length;exact Calls.call_len_list pl.isList (by simp only[List.size_toArray]<;>omega) ⟨.int ys.length,H,I.tok _,⟨s.toks+1,by rw[List.size_toArray,Mi]⟩,q⟩
 ·obtain⟨its,r',pl,hz⟩:=I.tuple hq;have Mi:=r'.length;exact len_tuple pl (by simp only[List.size_toArray]<;>omega) ⟨.int ys.length,H,I.tok _,⟨s.toks+1,by rw[List.size_toArray,Mi]⟩,q⟩
theorem sJ:dZ X (.builtin "len") (fun xs H Q=>∃z,xs= [.str z]∧z.length≤sizeLine∧Q (.int z.length) H):=by intro pins s σ H xs us Q I r h;obtain⟨z,rfl,hz,q⟩:=h;obtain⟨u,rfl,t,rfl⟩:=nJ r;have hn:=kL;exact len_str (by omega) ⟨.int z.length,H,I.tok _,⟨_,rfl⟩,q⟩
theorem sI:dZ X (.type "list") (fun xs H Q=>∃p ys,xs= [.ref p]∧(M_ X.K H p ys∨NP X.K H p ys)∧∀l,H l=none→Q (.ref l) (upd H l (.lst ys))):=by
 intro pins s σ H xs us Q I r h;obtain⟨p,ys,rfl,hq,q⟩:=h;obtain⟨u,rfl,rx⟩:=nJ r
 cases rx
 have fin:∀(its:List Value),bh ys its→ys.length≤sizeLine→∀(h':Heap)(c':Nat),(∀b o',s.heap.get? b=some o'→h'.get? b=some o')→
   h'.get? s.heap.objs.size=some { cls:=.type "list",dict:=none,data:=.seq its.toArray c',slots:= #[] }→EP X pins σ Q (.ref s.heap.objs.size) { s with heap:=h' }:=fun its r' hz h' c' kp e=>
  ⟨.ref s.heap.objs.size,_,I.laid (t':=s.toks) kp (acg _) (show bR X.prog X.w _ h' _ (.lst ys)from⟨hz,its,c',r',e⟩),rfl,q _ (I.hok.fresh (acg _))⟩
 rcases hq with hq|hq
 ·obtain⟨its,r',pl,hz⟩:=I.list hq;have Mi:=r'.length;obtain⟨o,ho,hc,n,hd⟩:=pl.isList;exact call_list_seq p (.inl rfl) ho hc hd (fun h' c' kp e=>fin its r' hz h' c' kp e) (by simp only[List.size_toArray]<;>omega)
 ·obtain⟨its,r',pl,hz⟩:=I.tuple hq;have Mi:=r'.length;obtain⟨o,ho,hc,n,hd⟩:=pl;exact call_list_seq p (.inr rfl) ho hc hd (fun h' c' kp e=>fin its r' hz h' c' kp e) (by simp only[List.size_toArray]<;>omega)
theorem pK:dZ X (.type "tuple") (fun xs H Q=>∃p ys,xs= [.ref p]∧((M_ X.K H p ys∧∀l,H l=none→Q (.ref l) (upd H l (.tup ys)))∨(NP X.K H p ys∧Q (.ref p) H))):=by
 intro pins s σ H xs us Q I r h;obtain⟨p,ys,rfl,h⟩:=h;obtain⟨u,rfl,rx⟩:=nJ r
 cases rx
 rcases h with⟨hq,q⟩|⟨hq,q⟩
 ·obtain⟨its,r',pl,hz⟩:=I.list hq;have Mi:=r'.length;refine call_tuple_list pl.isList (fun h' kp=>?_) (by simp only[List.size_toArray]<;>omega);have I1:Inv X pins σ H { s with heap:=h' }:=I.kept (t':=s.toks) kp
  have I2:Inv X pins σ (upd H h'.objs.size (.tup ys)) { s with heap:=h'.push { cls:=.type "tuple",data:=.seq its.toArray } }:=
   I1.laid (t':=s.toks) (fun b o e=>Heap.get?_push_of_some _ e) (acg _) (show bR X.prog X.w _ _ _ (.tup ys)from⟨hz,its,r',IsTup.new _ _⟩)
  exact⟨.ref h'.objs.size,_,I2,rfl,q _ (I1.hok.fresh (acg _))⟩
 ·obtain⟨its,r',pl,hz⟩:=I.tuple hq;exact call_tuple_same pl ⟨.ref p,H,I,rfl,q⟩
def Wh(K:W.Frag)(T:String)(x:V)(H:Hp):Prop:=match x with
 |.str _=>T="str"
 |.int _=>T="int"
 |.ref p=>(T="list"∧∃xs,M_ K H p xs)∨(T="tuple"∧∃o,K.lookup p=some o∧o.cls=.type "tuple"∧o.dict=none)∨
   (T="dict"∧((∃kvs,H p=some (.dK kvs))∨∃kvs,H p=some (.dT kvs)))∨(T="set"∧∃S n,H p=some (.set S n))
 |_=>False
theorem Fg{pins:List (Addr×Obj)}{σ:St}{H:Hp}{s:Shared}{T:String}{x:V}{v:Value}(I:Inv X pins σ H s)(r:bB x v)(ty:Wh X.K T x H):
  s.TypeIs v T∧∀a,v=.ref a→∃ob,s.heap.get? a=some ob∧ob.dict=none:=by
 cases x with
 |str z=>
  obtain⟨t,rfl⟩:=r
  cases(show T="str" from ty)
  exact⟨typeIs_str s z t,fun _ e=>nomatch e⟩
 |int i=>
  obtain⟨t,rfl⟩:=r
  cases(show T="int" from ty)
  exact⟨typeIs_int s i t,fun _ e=>nomatch e⟩
 |ref p=>
  cases r
  rcases ty with⟨rfl,xs,hq⟩|⟨rfl,o,hk,hc,hd⟩|⟨rfl,hk⟩|⟨rfl,S,n,hk⟩
  ·obtain⟨its,_,pl,_⟩:=I.list hq;refine⟨pl.isList.typeIs,fun a e=>?_⟩
   cases e
   obtain⟨o,n,e,c,hd,_⟩:=pl;exact⟨o,e,hd⟩
  ·refine⟨⟨o,I.Qq p o hk,hc⟩,fun a e=>?_⟩
   cases e
   exact⟨o,I.Qq _ o hk,hd⟩
  ·have z:∃o,s.heap.get? p=some o∧o.ExactDict:=by
    rcases hk with⟨kvs,hk⟩|⟨kvs,hk⟩
    ·obtain⟨_,_,_,_,o,_,_,e,ex,_⟩:=I.hok p _ hk;exact⟨o,e,ex⟩
    ·obtain⟨_,_,_,_,o,_,_,e,ex,_⟩:=I.hok p _ hk;exact⟨o,e,ex⟩
   obtain⟨o,e,ex⟩:=z;refine⟨⟨o,e,ex.1⟩,fun a e2=>?_⟩
   cases e2
   exact⟨o,e,ex.2.1⟩
  ·obtain⟨o,_,_,_,e,ex,_⟩:=I.hok p _ hk;refine⟨⟨o,e,ex.1⟩,fun a e2=>?_⟩
   cases e2
   exact⟨o,e,ex.2.1⟩
 |_=>exact False.elim ty
noncomputable def tBM(K:W.Frag)(T:String)(r:V→List V→Hp→VK→Prop)(to:TE)(t:TA):TE:=fun σ H Q=>to σ H fun x H1=>Wh K T x H1∧t σ H1 fun xs H2=>r x xs H2 Q
variable{o e:Expr}{es:List Expr}{to:TE}{t:TA}{name:Str}{apos M9:Pos}{T id:String}{r:V→List V→Hp→VK→Prop}
theorem HV(pa:PlainAttrs T)(slot:Slot T name id)(WR:typeOf (.builtin id)=pure (.type "method_descriptor"))(hm:Xi X id r)(ho:PE X o to)(ha:PA X (e::es) t)
  (QL:attributeBase o name X.env (eval o X.env)=eval o X.env:=by rfl)
  (VB:((backTo M9 (starEach (e::es) X.env)).all (fun x=>!x.1)&&(backToKw M9 (keywordEach [] X.env)).all (fun x=>x.1.isSome)
   &&decide ((e::es).length+([]:List Keyword).length+(if([]:List Keyword).isEmpty then 0 else 1)<30))=true:=by rfl)
  (hline:(apos.endLine==M9.line)=true:=by rfl)(hs:sE0 X e es:=by rfl) (R6:(backTo M9 (starEach es X.env)).any (·.1)=false:=by rfl):
  PE X (.Call (.Attribute o name apos) (e::es) [] M9) (tBM X.K T r to t):=by
 intro pins s σ H Q I h;refine wpAny_Call_method_late QL VB hline rfl (J6 (ho pins s σ H _ I h) ?_);rintro v s1 ⟨x,H1,I1,r1,ty,q1⟩;obtain⟨h1,h2⟩:=Fg I1 r1 ty;refine⟨T,id,pa,slot,WR,h1,h2,?_⟩;have hA:=ha M9 pins s1 σ H1 _ I1 q1;rw[hs]at hA ⊢;refine Calls.callWith_builtin (by show(false||(backTo M9 (starEach es X.env)).any (·.1))=false;rw[R6]<;>rfl) (Calls.evalArgs_plain ?_);exact J6 hA (by rintro us s2 ⟨vs,H2,I2,r2,q2⟩;exact hm pins s2 σ H2 x vs v us Q I2 r1 r2 q2)
end
def MtM(X:Cx)(id:String)(r:V→List V→Hp→VK→Prop):Prop:=
 ∀(pins:List (Addr×Obj))(s:Shared)(σ:St)(H:Hp)(x:V)(xs:List V)(v:Value)(us:List Value)(Q:VK),Inv X pins σ H s→bB x v→bh xs us→r x xs H Q→
  wpAny (model X.prog X.w) X.A (call (.builtin id) (v::us)) (EP X pins σ Q) X.xe s
theorem bh.one:∀{x:V}{us:List Value},bh [x] us→∃u,us= [u]∧bB x u
 |_,_,.cons r .nil=>⟨_,rfl,r⟩
theorem bh.rep{xs:List V}{us:List Value}(h:bh xs us):∀k:Nat,bh (List.replicate k xs).flatten (List.replicate k us).flatten
 |0=>.nil
 |k+1=>by rw[List.replicate_succ,List.replicate_succ,List.flatten_cons,List.flatten_cons];exact bh.append h (bh.rep h k)
theorem mE(its:List Value):∀(k:Nat)(acc:List Value),
  List.foldl (fun x1 x2=>x1++x2) acc.toArray (List.replicate k its.toArray)=(acc++(List.replicate k its).flatten).toArray
 |0,acc=>by simp
 |k+1,acc=>by
  have e:acc.toArray++its.toArray=(acc++its).toArray:=by simp
  have e2:(acc++its)++(List.replicate k its).flatten=acc++(List.replicate (k+1) its).flatten:=by rw[List.replicate_succ,List.flatten_cons,List.append_assoc]
  rw[← e2,← mE its k (acc++its),← e,List.replicate_succ,List.foldl_cons]
section
variable{X:Cx}{pins:List (Addr×Obj)}{σ:St}{H:Hp}{s:Shared}{l b:Addr}{xs ys zs:List V}
theorem Inv.Yy{its Qe:List Value}{n:Nat}{f:Array Value→Array Value}{t':Nat}(I:Inv X pins σ H s)(hH:H l=some (.lst xs))
  (e:s.heap.get? l=some { cls:=.type "list",data:=.seq its.toArray n }) (hf:f its.toArray=Qe.toArray) (hv:bh ys Qe) (hz:ys.length≤sizeLine):
  Inv X pins σ (upd H l (.lst ys)) { s with heap:=s.heap.update l (Obj.mapSeq f),toks:=t' }:=by
 have q:=PySem.IsL.update e f;rw[hf]at q;refine I.write (x:=l) (e:=l) (by rw[hH];exact trivial) (.inl rfl) (fun b' u hb hu=>(Heap.get?_update_other s.heap (Obj.mapSeq f) (Ne.symm hb)).trans hu) ⟨_,q⟩ ?_;exact⟨hz,Qe,_,hv,q⟩
theorem Inv.WD{its:List Value}{t':Nat}(I:Inv X pins σ H s)(hv:bh ys its)(hz:ys.length≤sizeLine):
  Inv X pins σ (upd H s.heap.objs.size (.lst ys)) { s with heap:=s.heap.push { cls:=.type "list",data:=.seq its.toArray },toks:=t' }:=
 I.laid (fun _ _ q=>Heap.get?_push_of_some _ q) (acg _) ⟨hz,its,0,hv,Heap.get?_push_size _ rfl⟩
theorem Inv.fresh(I:Inv X pins σ H s):H s.heap.objs.size=none:=I.hok.fresh (acg _)
theorem Inv.Ur(I:Inv X pins σ H s)(hH:H l=some (.lst xs)):xs.length≤sizeLine∧∃(its:List Value)(n:Nat),bh xs its∧xs.length=its.length∧s.heap.get? l=some { cls:=.type "list",data:=.seq its.toArray n }:=by obtain⟨z,its,n,r,e⟩:=I.hok l _ hH;exact⟨z,its,n,r,r.length,e⟩
theorem AR{n:Nat}(h:n≤sizeLine):Builtin.List.listTooLong n=false:=by unfold Builtin.List.listTooLong;exact decide_eq_false (by omega)
end
section
variable{X:Cx}
def wV:V→List V→Hp→VK→Prop:=fun x vs H Q=>∃l xs y,x=.ref l∧vs= [y]∧H l=some (.lst xs)∧xs.length<sizeLine∧Q .non (upd H l (.lst (xs++ [y])))
theorem mB:MtM X "list.append" wV:=by
 intro pins s σ H x vs v us Q I rx rv h;obtain⟨l,xs,y,rfl,rfl,hH,hz,q⟩:=h
 cases rx
 obtain⟨u,rfl,ru⟩:=rv.one;obtain⟨z,its,n,r,hl,e⟩:=I.Ur hH;refine call_meets F.slot_list_append ⟨_,e,rfl⟩ F.entry_list_append (F.args_list_append_2 _ _) (PySem.list_append l its.toArray n u (by rw[List.size_toArray];omega)) ⟨e,?_⟩;refine⟨.non,_,I.Yy (Qe:=its++ [u]) hH e (by simp) (r.append (.cons ru .nil)) ?_,rfl,q⟩;rw[List.length_append,List.length_singleton];omega
def HM:R2:=fun x y H Q=>∃l b xs zs,x=.ref l∧y=.ref b∧H l=some (.lst xs)∧H b=some (.lst zs)∧xs.length+zs.length≤sizeLine∧∀p,H p=none→Q (.ref p) (upd H p (.lst (xs++zs)))
theorem Gi:Nq X (binaryOp .Add) HM:=by
 intro pins s σ H x y v u Q I rx ry h;obtain⟨l,b,xs,zs,rfl,rfl,hH,hB,hz,q⟩:=h
 cases rx
 cases ry
 obtain⟨z,its,n,r,hl,e⟩:=I.Ur hH;obtain⟨z2,Us,n2,r2,hl2,e2⟩:=I.Ur hB;refine PySem.P.add_list e e2 ?_ (by rw[List.size_toArray,List.size_toArray];omega);have ea:its.toArray++Us.toArray=(its++Us).toArray:=by simp
 rw[ea];exact⟨.ref _,_,I.WD (t':=s.toks) (r.append r2) (by rw[List.length_append];omega),rfl,q _ I.fresh⟩
def HI:R2:=fun x y H Q=>∃l k xs,x=.ref l∧y=.int k∧H l=some (.lst xs)∧ -(2 ^ 63)≤k∧k<2 ^ 63∧xs.length * k.toNat≤sizeLine∧
 ∀p,H p=none→Q (.ref p) (upd H p (.lst (List.replicate k.toNat xs).flatten))
theorem rM{α:Type}(xs:List α)(k:Nat):(List.replicate k xs).flatten.length=k * xs.length:=by
 induction k with
 |zero=>simp
 |succ k ih=>rw[List.replicate_succ,List.flatten_cons,List.length_append,ih,Nat.succ_mul,Nat.add_comm]
theorem Gg:Nq X (binaryOp .Mult) HI:=by
 intro pins s σ H x y v u Q I rx ry h;obtain⟨l,k,xs,rfl,rfl,hH,h1,h2,hz,q⟩:=h
 cases rx
 obtain⟨t,rfl⟩:=ry;obtain⟨z,its,n,r,hl,e⟩:=I.Ur hH;have Mi:its.toArray.size * k.toNat≤sizeLine:=by rw[List.size_toArray,← hl];exact hz
 have Zi:¬ its.toArray.size * k.toNat>(2 ^ 63 - 1) / 8:=by
  have:(sizeLine:Nat)≤(2 ^ 63 - 1) / 8:=by decide
  omega
 have Zd:¬ (!Builtin.List.listFitsIndex k)=true:=by rw[fitsIndex_both h1 h2];exact Bool.false_ne_true
 have WY:¬ Builtin.List.listTooLong (its.toArray.size * k.toNat)=true:=by rw[AR Mi];exact Bool.false_ne_true
 have Y5:List.foldl (fun x1 x2=>x1++x2) #[] (List.replicate (if its.toArray.isEmpty=true then 0 else k.toNat) its.toArray)=(List.replicate k.toNat its).flatten.toArray:=by
  have f0:∀m:Nat,List.foldl (fun x1 x2=>x1++x2) #[] (List.replicate m its.toArray)=(List.replicate m its).flatten.toArray:=fun m=>by have:=mE its m [];rw[List.nil_append]at this;exact this
  rw[f0]
  cases its with
  |nil=>simp
  |cons a r'=>rw[if_neg (by simp)]
 refine wpAny_binaryOp_repeat_ref (T:="list") (U:="int") (by decide) ⟨_,e,rfl⟩ (fun s'=>typeIs_int s' k t) noFill_list_mul F.fills_int_mul F.slot_int_rmul repeat_list F.slot_int_index.lookup
  (call_meets F.slot_int_rmul (typeIs_int s k t) F.entry_int_rmul (F.args_int_rmul_2 _ _) (int___rmul___int_list k t l its.toArray n)
   ⟨e,rfl,⟨_,e,rfl⟩,call_meets F.slot_list_mul ⟨_,e,rfl⟩ F.entry_list_mul (F.args_list_mul_2 _ _) (AutoListH.list___mul___list_int_3 l its.toArray n k t Zd Zi WY) ⟨e,?_⟩⟩)
 rw[Y5];exact⟨.ref _,_,I.WD (t':=s.toks) (r.rep k.toNat) (by rw[rM,Nat.mul_comm];exact hz),rfl,q _ I.fresh⟩
end
section
variable{prog:Program}{w:World}{A:Around}{E:Value→Shared→Prop}{s:Shared}
set_option maxRecDepth 100000 in
end
section
variable{κ:Type} [DecidableEq κ]
noncomputable def md(kvs:List (κ×V))(k:κ):Option V:=(kvs.find? fun kv=>decide (kv.1=k)).map (·.2)
noncomputable def iW(kvs:List (κ×V))(k:κ)(v:V):List (κ×V):=
 if(kvs.any fun kv=>decide (kv.1=k))=true then kvs.map (fun kv=>if kv.1=k then(kv.1,v)else kv)else kvs++ [(k,v)]
theorem kZ{p:κ×V}{r:List (κ×V)}{k:κ}(e:p.1=k):md (p::r) k=some p.2:=by simp[md,List.find?_cons,e]
theorem lg{p:κ×V}{r:List (κ×V)}{k:κ}(e:¬ p.1=k):md (p::r) k=md r k:=by simp[md,List.find?_cons,e]
theorem tf(k:κ):∀kvs:List (κ×V),(kvs.any fun kv=>decide (kv.1=k))=(md kvs k).isSome
 |[]=>rfl
 |p::r=>by
  rw[List.any_cons]
  by_cases e:p.1=k
  ·simp only[kZ e,decide_eq_true e,Bool.true_or,Option.isSome_some]
  ·rw[lg e,decide_eq_false e,Bool.false_or];exact tf k r
theorem jx(kvs:List (κ×V))(k:κ)(v:V):(iW kvs k v).length≤kvs.length+1:=by
 unfold iW
 split
 ·rw[List.length_map];omega
 ·rw[List.length_append,List.length_cons,List.length_nil];omega
theorem oZ.NT{o:Option V}{u:Option Value}(r:oZ o u):o.isSome=u.isSome:=by
 cases o with
 |none=>cases u with
  |none=>rfl
  |some _=>exact(show False from r).elim
 |some _=>cases u with
  |none=>exact(show False from r).elim
  |some _=>rfl
theorem KV.val{kvs:List (κ×V)}{vs:List (κ×Value)}(r:KV kvs vs)(k:κ):oZ (md kvs k) (valueAt vs k):=by
 unfold KV at r
 induction r with
 |nil=>exact True.intro
 |@cons p q ps qs h t ih=>
  obtain⟨h1,h2⟩:=h
  by_cases e:p.1=k
  ·have e':q.1=k:=h1.symm.trans e;have b:valueAt (q::qs) k=some q.2:=by simp[valueAt,List.find?_cons,e']
   rw[kZ e,b];exact h2
  ·have e':¬ q.1=k:=fun z=>e (h1.trans z);have b:valueAt (q::qs) k=valueAt qs k:=by simp[valueAt,List.find?_cons,e']
   rw[lg e,b];exact ih
theorem KV.any{kvs:List (κ×V)}{vs:List (κ×Value)}(r:KV kvs vs)(k:κ):(kvs.any fun kv=>decide (kv.1=k))=vs.any fun kv=>decide (kv.1=k):=by
 unfold KV at r
 induction r with
 |nil=>rfl
 |cons h t ih=>rw[List.any_cons,List.any_cons,ih,h.1]
theorem KV.repl{kvs:List (κ×V)}{vs:List (κ×Value)}(r:KV kvs vs)(k:κ){y:V}{u:Value}(ry:bB y u):
  KV (kvs.map fun kv=>if kv.1=k then(kv.1,y)else kv) (vs.map fun kv=>if kv.1=k then(kv.1,u)else kv):=by
 unfold KV at r ⊢
 induction r with
 |nil=>exact .nil
 |@cons p q ps qs h t ih=>
  rw[List.map_cons,List.map_cons];refine .cons ?_ ih;obtain⟨h1,h2⟩:=h
  by_cases e:p.1=k
  ·rw[if_pos e,if_pos (h1.symm.trans e)];exact⟨h1,ry⟩
  ·rw[if_neg e,if_neg (fun z=>e (h1.trans z))];exact⟨h1,h2⟩
theorem KV.put{kvs:List (κ×V)}{vs:List (κ×Value)}(r:KV kvs vs)(k:κ){y:V}{u:Value}(ry:bB y u):KV (iW kvs k y) (stored vs k u):=by
 unfold iW stored;rw[r.any k]
 by_cases e:(vs.any fun kv=>decide (kv.1=k))=true
 ·rw[if_pos e,if_pos e];exact r.repl k ry
 ·rw[if_neg e,if_neg e];exact Paired.snoc r ⟨rfl,ry⟩
theorem KV.length{kvs:List (κ×V)}{vs:List (κ×Value)}(r:KV kvs vs):kvs.length=vs.length:=Paired.length r
end
theorem qo{P:Program}{w:World}{k:Key}{u:Value}(r:bB (kV k) u):(cS P w).is k u=true:=by
 cases k with
 |inl i=>obtain⟨t,e⟩:=(show∃t,u=Value.int i t from r);subst e;exact uq P w i t
 |inr x=>obtain⟨t,e⟩:=(show∃t,u=Value.str x t from r);subst e;exact uo P w x t
theorem qr{P:Program}{w:World}:∀{ks:List Key}{us:List Value},bh (ks.map kV) us→ItemsAre (cS P w) ks us
 |[],_,r=>by rw[List.map_nil]at r;cases r;exact .nil
 |k::ks,_,r=>by
  rw[List.map_cons]at r
  cases r with
  |cons h t=>exact .cons (qo h) (qr t)
abbrev KT(H:Hp):List (List Key×V)→List (List Key×Addr×Value)→Prop:=Paired fun p q=>p.1=q.1∧H q.2.1=some (.tup (p.1.map kV))∧bB p.2 q.2.2
theorem KT.val{H:Hp}{kvs:List (List Key×V)}{xs:List (List Key×Addr×Value)}(r:KT H kvs xs)(k:List Key):oZ (md kvs k) ((atKey xs k).map (·.2)):=by
 induction r with
 |nil=>exact True.intro
 |@cons p q ps qs h t ih=>
  obtain⟨h1,_,h2⟩:=h
  by_cases e:p.1=k
  ·have e':q.1=k:=h1.symm.trans e;have b:atKey (q::qs) k=some q.2:=by simp[atKey,List.find?_cons,e']
   rw[kZ e,b];exact h2
  ·have e':¬ q.1=k:=fun z=>e (h1.trans z);have b:atKey (q::qs) k=atKey qs k:=by simp[atKey,List.find?_cons,e']
   rw[lg e,b];exact ih
theorem KT.repl{H:Hp}{kvs:List (List Key×V)}{xs:List (List Key×Addr×Value)}(r:KT H kvs xs)(k:List Key){y:V}{u:Value}(ry:bB y u):
  KT H (kvs.map fun kv=>if kv.1=k then(kv.1,y)else kv) (xs.map (putAt k u)):=by
 induction r with
 |nil=>exact .nil
 |@cons p q ps qs h t ih=>
  rw[List.map_cons,List.map_cons];refine .cons ?_ ih;obtain⟨h1,h2,h3⟩:=h;unfold putAt
  by_cases e:p.1=k
  ·rw[if_pos e,if_pos (h1.symm.trans e)];exact⟨h1,h2,ry⟩
  ·rw[if_neg e,if_neg (fun z=>e (h1.trans z))];exact⟨h1,h2,h3⟩
theorem KT.put{H:Hp}{kvs:List (List Key×V)}{xs:List (List Key×Addr×Value)}(r:KT H kvs xs)(k:List Key){b:Addr}{y:V}{u:Value}(hb:H b=some (.tup (k.map kV)))(ry:bB y u):
  KT H (iW kvs k y) (storedH xs k b u):=by
 have e:(kvs.any fun kv=>decide (kv.1=k))=(atKey xs k).isSome:=by rw[tf,(r.val k).NT,Option.isSome_map]
 unfold iW storedH;rw[e]
 by_cases q:(atKey xs k).isSome=true
 ·rw[if_pos q,if_pos q];exact r.repl k ry
 ·rw[if_neg q,if_neg q];exact Paired.snoc r ⟨rfl,hb,ry⟩
theorem KT.keeps{H H':Hp}{kvs:List (List Key×V)}{xs:List (List Key×Addr×Value)}(r:KT H kvs xs)(ht:∀b ys,H b=some (.tup ys)→H' b=some (.tup ys)):KT H' kvs xs:=
 Paired.Vq r fun _ _ z=>⟨z.1,ht _ _ z.2.1,z.2.2⟩
section
variable{P:Program}{w:World}{H:Hp}{h:Heap}{a:Addr}
theorem Em{u:HO}(ok:Ob P w H h)(e:Rd H a u):bR P w H h a u:=e.ok ok
theorem mP{kvs:List (Key×V)}(ok:Ob P w H h)(e:Rd H a (.dK kvs)):kvs.length≤sizeLine∧(a==sysModules)=false∧∃vs,KV kvs vs∧h.DictOf (cS P w) a vs:=
 show bR P w H h a (.dK kvs)from Em ok e
theorem EO{kvs:List (Key×V)}(ok:Ob P w H h)(e:H a=some (.dK kvs)):kvs.length≤sizeLine∧(a==sysModules)=false∧∃vs,KV kvs vs∧h.DictOf (cS P w) a vs:=mP ok (.inl e)
theorem oM{ks:List Key}(ok:Ob P w H h)(e:H a=some (.tup (ks.map kV))):(tupleKind (cS P w)).is h ks a:=by
 obtain⟨_,its,r,o,h1,h2,n,h3⟩:=(show bR P w H h a (.tup (ks.map kV))from ok a _ e)
 exact⟨o,its.toArray,n,h1,h2,h3,by simpa using qr r⟩
theorem uI{kvs:List (List Key×V)}(ok:Ob P w H h)(e:Rd H a (.dT kvs)):kvs.length≤sizeLine∧(a==sysModules)=false∧
  ∃xs,KT H kvs xs∧h.DictOfH (tupleKind (cS P w)) a xs:=by
 obtain⟨z,y,xs,r,o,es,ep,h1,h2,h3,h4,h5⟩:=(show bR P w H h a (.dT kvs)from Em ok e)
 refine⟨z,y,xs,r,o,es,ep,h1,h2,h3,h4,fun x hx=>?_,h5⟩
 have all:∀{l:List (List Key×V)}{m:List (List Key×Addr×Value)},KT H l m→∀x∈m,(tupleKind (cS P w)).is h x.1 x.2.1:=by
  intro l m q
  induction q with
  |nil=>intro x hx;exact nomatch hx
  |@cons p q ps qs hq t ih=>
   intro x hx;rcases List.mem_cons.mp hx with e|hx
   ·subst e;exact oM ok (by rw[← hq.1];exact hq.2.1)
   ·exact ih x hx
 exact all r x hx
theorem IG{kvs:List (List Key×V)}(ok:Ob P w H h)(e:H a=some (.dT kvs)):kvs.length≤sizeLine∧(a==sysModules)=false∧
  ∃xs,KT H kvs xs∧h.DictOfH (tupleKind (cS P w)) a xs:=uI ok (.inl e)
end
def uY(H:Hp)(a:Addr)(y:V)(r:Option V):Prop:=
 (∃kvs k,Rd H a (.dK kvs)∧y=kV k∧r=md kvs k)∨∃kvs k b,Rd H a (.dT kvs)∧y=.ref b∧H b=some (.tup (k.map kV))∧r=md kvs k
def Cg(H:Hp)(a:Addr)(y v:V)(H':Hp):Prop:=
 (∃kvs k,H a=some (.dK kvs)∧y=kV k∧kvs.length<sizeLine∧H'=upd H a (.dK (iW kvs k v)))∨
 ∃kvs k b,H a=some (.dT kvs)∧y=.ref b∧H b=some (.tup (k.map kV))∧kvs.length<sizeLine∧H'=upd H a (.dT (iW kvs k v))
theorem Cg.k{H:Hp}{a:Addr}{kvs:List (Key×V)}{k:Key}{v:V}(e:H a=some (.dK kvs))(hl:kvs.length<sizeLine):Cg H a (kV k) v (upd H a (.dK (iW kvs k v))):=.inl ⟨kvs,k,e,rfl,hl,rfl⟩
section
variable{X:Cx}{pins:List (Addr×Obj)}{σ:St}{H:Hp}{s:Shared}{a:Addr}{y v:V}{u r:Value}{o:Option V}{A:Around}{E:Value→Shared→Prop}
theorem Inv.big(I:Inv X pins σ H s):sysModules<s.heap.objs.size:=by have h:mainGlobals<s.heap.objs.size:=(I.mod.glob.keeps I.bk).lt;exact Nat.lt_trans (by decide) h
theorem yT{Q:Value→Shared→Prop}(hu:A.units+1<cLine)(I:Inv X pins σ H s)(g:uY H a y (some v))(ry:bB y u)(h:∀w' s',Inv X pins σ H s'→bB v w'→Q w' s'):
  wpAny (model X.prog X.w) A (getItem (.ref a) u) Q E s:=by
 rcases g with⟨kvs,k,e,ey,l⟩|⟨kvs,k,b,e,ey,eb,l⟩
 ·subst ey;obtain⟨z,hd,vs,rel,dd⟩:=mP I.hok e;obtain⟨w',hw,Sq⟩:=oZ.some_of (v:=v) (o:=valueAt vs k) (by rw[l];exact rel.val k);exact wpAny_getItem_of (qo ry) dd.mapOf hw (h w' _ (I.tok _) Sq)
 ·subst ey
  cases(show u=Value.ref b from ry)
  obtain⟨z,hd,xs,rel,dd⟩:=uI I.hok e;obtain⟨w',hw,Sq⟩:=oZ.some_of (v:=v) (o:=(atKey xs k).map (·.2)) (by rw[l];exact rel.val k);obtain⟨p,hp,Ub⟩:=Option.map_eq_some_iff.mp hw;refine wpAny_getItem_heap (tupleKind_room_in1 hu) (oM I.hok eb) dd hp ?_;rw[Ub];exact h w' _ (I.tok _) Sq
theorem KL{Q:Value→Shared→Prop}(hu:A.units+1<cLine)(I:Inv X pins σ H s)(g:uY H a y o)(ry:bB y u)(h:∀s',Inv X pins σ H s'→Q (.bool o.isSome) s'):
  wpAny (model X.prog X.w) A (compareOp .In u (.ref a)) Q E s:=by
 rcases g with⟨kvs,k,e,ey,l⟩|⟨kvs,k,b,e,ey,eb,l⟩
 ·subst ey;obtain⟨z,hd,vs,rel,dd⟩:=mP I.hok e;refine wpAny_in_of (qo ry) hd dd.mapOf ?_;rw[← (rel.val k).NT,← l];exact h _ (I.tok _)
 ·subst ey
  cases(show u=Value.ref b from ry)
  obtain⟨z,hd,xs,rel,dd⟩:=uI I.hok e;refine wpAny_in_heap (tupleKind_room_in1 hu) (oM I.hok eb) hd dd ?_;have q:=(rel.val k).NT;rw[Option.isSome_map]at q;rw[← q,← l];exact h _ (I.tok _)
theorem DQ{Q:Value→Shared→Prop}(hu:A.units+1<cLine)(I:Inv X pins σ H s)(g:uY H a y o)(ry:bB y u)(h:∀s',Inv X pins σ H s'→Q (.bool (!o.isSome)) s'):
  wpAny (model X.prog X.w) A (compareOp .NotIn u (.ref a)) Q E s:=by
 rcases g with⟨kvs,k,e,ey,l⟩|⟨kvs,k,b,e,ey,eb,l⟩
 ·subst ey;obtain⟨z,hd,vs,rel,dd⟩:=mP I.hok e;refine wpAny_notIn_of (qo ry) hd dd.mapOf ?_;rw[← (rel.val k).NT,← l];exact h _ (I.tok _)
 ·subst ey
  cases(show u=Value.ref b from ry)
  obtain⟨z,hd,xs,rel,dd⟩:=uI I.hok e;refine wpAny_notIn_heap (tupleKind_room_in1 hu) (oM I.hok eb) hd dd ?_;have q:=(rel.val k).NT;rw[Option.isSome_map]at q;rw[← q,← l];exact h _ (I.tok _)
theorem sA{h':Heap}{t':Nat}{ob:HO}(I:Inv X pins σ H s)(mu:Xh (H a))(hs:Heap.SameBut a s.heap h')(he:∃q,h'.get? a=some q)(new:bR X.prog X.w (upd H a ob) h' a ob):
  Inv X pins σ (upd H a ob) { s with heap:=h',toks:=t' }:=
 I.write (x:=a) (e:=a) mu (.inl rfl) (fun b q hb z=>(hs.2 b hb).trans z) he new
theorem vW{P:Program}{w:World}{H':Hp}{h':Heap}{kvs:List (Key×V)}{vs:List (Key×Value)}(z:kvs.length≤sizeLine)(hd:(a==sysModules)=false)(rel:KV kvs vs)(dd:h'.DictOf (cS P w) a vs):
  bR P w H' h' a (.dK kvs):=⟨z,hd,vs,rel,dd⟩
theorem yS{H':Hp}{Q:Unit→Shared→Prop}(hu:A.units+1<cLine)(I:Inv X pins σ H s)(g:Cg H a y v H')(ry:bB y u)(rv:bB v r)(h:∀s',Inv X pins σ H' s'→Q () s'):
  wpAny (model X.prog X.w) A (setItem (.ref a) u r) Q E s:=by
 rcases g with⟨kvs,k,e,ey,l,eH⟩|⟨kvs,k,b,e,ey,eb,l,eH⟩
 ·subst ey eH;obtain⟨z,hd,vs,rel,dd⟩:=EO I.hok e;have hz:vs.length≤sizeLine:=by rw[← rel.length];exact z
  have hl:(iW kvs k v).length≤sizeLine:=by have:=jx kvs k v;omega
  refine wpAny_setItem_pairs (hsz:=hz) (qo ry) dd fun h' UJ hs=>h _ ?_;have he:∃q,h'.get? a=some q:=let⟨q,_,_,hq,_⟩:=UJ;⟨q,hq⟩;exact sA I (by rw[e];exact True.intro) hs he (vW hl hd (rel.put k rv) UJ)
 ·subst ey eH
  cases(show u=Value.ref b from ry)
  obtain⟨z,hd,xs,rel,dd⟩:=IG I.hok e;have hz:xs.length≤sizeLine:=by rw[← Paired.length rel];exact z
  have hl:(iW kvs k v).length≤sizeLine:=by have:=jx kvs k v;omega
  refine wpAny_setItem_heap (hsz:=hz) (tupleKind_room_in1 hu) (oM I.hok eb) dd fun h' UJ hs=>h _ ?_;obtain⟨q,es,ep,hq,h2,h3,h4,_,h5⟩:=UJ;refine sA I (by rw[e];exact True.intro) hs ⟨q,hq⟩ ⟨hl,hd,_,(rel.put k eb rv).keeps fun c ys ec=>?_,q,es,ep,hq,h2,h3,h4,h5⟩;rw[ak (qd ec e (fun z=>nomatch z))];exact ec
end
section
variable{X:Cx}{pins:List (Addr×Obj)}{σ:St}{H:Hp}{s:Shared}{a:Addr}{kvs:List (Key×V)}{k:Key}{u:Value}{A:Around}{E:Value→Shared→Prop}
theorem II{Q:Value→Shared→Prop}(I:Inv X pins σ H s)(e:Rd H a (.dK kvs))(h:∀t s',Inv X pins σ H s'→Q (.int kvs.length t) s'):wpAny (model X.prog X.w) A (call (.builtin "len") [.ref a]) Q E s:=by obtain⟨z,hd,vs,rel,dd⟩:=mP I.hok e;refine call_len_dict hd dd (by rw[← rel.length];rw[sizeLine_eq]at z;omega) ?_;rw[← rel.length];exact h _ _ (I.tok _)
end
theorem uK{X:Cx}{pins:List (Addr×Obj)}{σ:St}{H:Hp}{s:Shared}{a:Addr}{y:V}{o:Option V}(I:Inv X pins σ H s)(g:uY H a y o):s.TypeIs (.ref a) "dict":=by
 rcases g with⟨kvs,k,e,_,_⟩|⟨kvs,k,b,e,_,_,_⟩
 ·obtain⟨_,_,vs,_,dd⟩:=mP I.hok e;exact dd.typeIs
 ·obtain⟨_,_,xs,_,dd⟩:=uI I.hok e;exact dd.typeIs
noncomputable def Hx(td ty tv:TE):TS:=fun D σ H=>tv σ H fun v H1=>td σ H1 fun x H2=>ty σ H2 fun y H3=>∃a H4,x=.ref a∧Cg H3 a y v H4∧D.nx σ H4
section
variable{X:Cx}{o i e value:Expr}{pos pos' abC:Pos}{td ty tv:TE}
theorem CV(hu:X.A.units+1<cLine)(ho:PE X o td)(hi:PE X i ty)(hv:PE X value tv)(hs:swapsWith value (some (.Subscript o i pos')) pos.line X.env=pure false):
  PS X (.Assign [.Subscript o i pos'] value pos) (Hx td ty tv):=by
 intro pins s σ H D I h;refine wpAny_Assign_Subscript (J6 (hv pins s σ H _ I h) fun r s1 ⟨v,H1,I1,rv,q1⟩=>J6 (ho pins s1 σ H1 _ I1 q1) fun u s2 ⟨x,H2,I2,rx,q2⟩=>J6 (hi pins s2 σ H2 _ I2 q2) ?_) hs;rintro iv s3 ⟨y,H3,I3,ry,a,H4,ex,g,q3⟩;subst ex;obtain rfl:u=Value.ref a:=rx;exact yS hu I3 g ry rv fun s4 I4=>⟨σ,H4,I4,q3⟩
end
theorem uJ{P:Program}{w:World}{H:Hp}(h:Heap)(hb:sysModules<h.objs.size):bR P w H (h.push { cls:=.type "dict",data:=.dict #[] }) h.objs.size (.dK []):=
 ⟨Nat.zero_le _,beq_eq_false_iff_ne.mpr (Ne.symm (Nat.ne_of_lt hb)),[],.nil,Heap.DictOf.new h⟩
def Fi:TE:=fun _ H Q=>∀p,H p=none→Q (.ref p) (upd H p (.dK []))
section
variable{X:Cx}{pos:Pos}
theorem AB:PE X (.Dict [] [] pos) Fi:=fun pins s σ H Q I h=>wpAny_Dict_empty ⟨.ref s.heap.objs.size,_,I.laid (a:=s.heap.objs.size) (o:=.dK []) (t':=s.toks) (fun _ _ q=>Heap.get?_push_of_some _ q) (acg _) (uJ s.heap I.big),rfl,h _ (I.hok.fresh (acg _))⟩
end
def qL:List (TE×TE)→St→Hp→(List (V×V)→Hp→Prop)→Prop
 |[],_,H,Q=>Q [] H
 |(tk,tv)::r,σ,H,Q=>tk σ H fun x H1=>tv σ H1 fun y H2=>qL r σ H2 fun ps H3=>Q ((x,y)::ps) H3
abbrev VV:List (V×V)→List (Value×Value)→Prop:=Paired fun p q=>bB p.1 q.1∧bB p.2 q.2
def Xf(X:Cx)(pos:Pos)(keys:List (Option Expr))(values:List Expr)(Ul:List (TE×TE)):Prop:=
 ∀(pins:List (Addr×Obj))(s:Shared)(σ:St)(H:Hp)(Q:List (V×V)→Hp→Prop),Inv X pins σ H s→qL Ul σ H Q→
  wpAny (model X.prog X.w) X.A (evalPairs (pairTrees keys values X.env pos)) (fun vs s'=>∃ps H',Inv X pins σ H' s'∧VV ps vs∧Q ps H') X.xe s
theorem CY{X:Cx}{pos:Pos}:Xf X pos [] [] []:=fun pins s σ H Q I h=>pairTrees_nil_walk ⟨[],H,I,.nil,h⟩
theorem Ap{X:Cx}{pos:Pos}{k v:Expr}{ks:List (Option Expr)}{vs:List Expr}{tk tv:TE}{Ul:List (TE×TE)}(hk:PE X k tk)(hv:PE X v tv)(hr:Xf X pos ks vs Ul):
  Xf X pos (some k::ks) (v::vs) ((tk,tv)::Ul):=fun pins s σ H Q I h=>
 pairTrees_cons_walk (J6 (hk pins s σ H _ I h) (by rintro u s1 ⟨x,H1,I1,rx,q1⟩;exact J6 (hv pins s1 σ H1 _ I1 q1) (by rintro w2 s2 ⟨y,H2,I2,ry,q2⟩;exact J6 (hr pins s2 σ H2 _ I2 q2) (by rintro ws s3 ⟨ps,H3,I3,rel,q3⟩;exact ⟨(x,y)::ps,H3,I3,.cons ⟨rx,ry⟩ rel,q3⟩))))
def gI(kvs more:List (Key×V)):List (Key×V):=more.foldl (fun acc kv=>iW acc kv.1 kv.2) kvs
theorem KV.merge:∀{more:List (Key×V)}{rs:List (Key×Value)}{kvs:List (Key×V)}{vs:List (Key×Value)},KV more rs→KV kvs vs→KV (gI kvs more) (merged vs rs):=by
 intro more rs kvs vs r;unfold KV at r
 induction r generalizing kvs vs with
 |nil=>intro q;exact q
 |@cons p q ps qs h t ih=>
  intro r0
  have e:KV (iW kvs p.1 p.2) (stored vs q.1 q.2):=by have:=r0.put p.1 h.2;rw[← h.1];exact this
  exact ih e
theorem ku:∀(more kvs:List (Key×V)),(gI kvs more).length≤kvs.length+more.length
 |[],kvs=>by show kvs.length≤kvs.length+0;omega
 |p::r,kvs=>by have h1:=ku r (iW kvs p.1 p.2);have h2:=jx kvs p.1 p.2;show(gI (iW kvs p.1 p.2) r).length≤_;rw[List.length_cons];omega
theorem oV{P:Program}{w:World}:∀{kvs:List (Key×V)}{ws:List (Value×Value)},VV (kvs.map fun kv=>(kV kv.1,kv.2)) ws→∃rs,Carries (cS P w) ws rs∧KV kvs rs
 |[],_,r=>by rw[List.map_nil]at r;cases r;exact⟨[],True.intro,.nil⟩
 |p::kvs,_,r=>by
  rw[List.map_cons]at r
  cases r with
  |@cons a b as bs h t=>obtain⟨rs,c,q⟩:=oV (P:=P) (w:=w) t;obtain⟨b1,b2⟩:=b;exact⟨(p.1,b2)::rs,⟨qo h.1,rfl,c⟩,.cons ⟨rfl,h.2⟩ q⟩
def Hn(Ul:List (TE×TE)):TE:=fun σ H Q=>∀p,H p=none→qL Ul σ (upd H p (.dK [])) fun ps H2=>H2 p=some (.dK [])∧∃kvs:List (Key×V),ps=kvs.map (fun kv=>(kV kv.1,kv.2))∧kvs.length≤15∧Q (.ref p) (upd H2 p (.dK (gI [] kvs)))
theorem Dd{X:Cx}{pos:Pos}{keys:List (Option Expr)}{values:List Expr}{Ul:List (TE×TE)}(h:Xf X pos keys values Ul)(R8:keys.all (·.isSome)=true)(hl:keys.length=values.length)(h0:keys≠ [])
  (Wa:keys.length≤15):PE X (.Dict keys values pos) (Hn Ul):=by
 intro pins s σ H Q I q;have hn:=I.hok.fresh (acg s.heap.objs.size);have I1:=I.laid (a:=s.heap.objs.size) (o:=.dK []) (h':=s.heap.push { cls:=.type "dict",data:=.dict #[] }) (t':=s.toks) (fun _ _ q=>Heap.get?_push_of_some _ q) (acg _) (uJ s.heap I.big);refine wpAny_Dict_walk (knd:=cS X.prog X.w) R8 hl h0 Wa (J6 (h pins _ σ _ _ I1 (q _ hn)) ?_);rintro ws s2 ⟨ps,H2,I2,rel,e,kvs,ep,lk,q2⟩;subst ep;obtain⟨rs,c,rk⟩:=oV (P:=X.prog) (w:=X.w) rel;obtain⟨z,hd,Xm,r0,dd⟩:=EO I2.hok e
 cases r0
 refine⟨rs,c,dd,fun h' UJ hs=>⟨.ref s.heap.objs.size,_,?_,rfl,q2⟩⟩
 have hz:(gI [] kvs).length≤sizeLine:=by have h1:=ku kvs [];rw[List.length_nil]at h1;rw[sizeLine_eq];omega
 have he:∃q,h'.get? s.heap.objs.size=some q:=let⟨q,_,_,hq,_⟩:=UJ;⟨q,hq⟩;exact sA I2 (by rw[e];exact True.intro) hs he (vW hz hd (rk.merge .nil) UJ)
section
variable{X:Cx}{pins:List (Addr×Obj)}{σ:St}{H:Hp}{s:Shared}{a:Addr}{kvs:List (Key×V)}{A:Around}{E:Value→Shared→Prop}
theorem BJ{Q:Value→Shared→Prop}(I:Inv X pins σ H s)(e:Rd H a (.dK kvs))(h:∀p s',H p=none→Inv X pins σ (upd H p (.dK kvs)) s'→Q (.ref p) s'):wpAny (model X.prog X.w) A (call (.type "dict") [.ref a]) Q E s:=by obtain⟨z,hd,vs,rel,dd⟩:=mP I.hok e;refine kt_call_dict hd dd (by rw[← rel.length];exact z) fun h' UJ hs=>?_;refine h _ _ (I.hok.fresh (acg _)) (I.laid (a:=s.heap.objs.size) (o:=.dK kvs) (t':=s.toks) (fun b q hq=>?_) (acg _) (vW z (beq_eq_false_iff_ne.mpr (Ne.symm (Nat.ne_of_lt I.big))) rel UJ));exact(hs.2 b (Nat.ne_of_lt (Heap.lt_size hq))).trans (Heap.get?_push_of_some _ hq)
end
end L2
namespace Att
open PySem PySem.W PySem.Calls PyProof.Rows
theorem mX{P:Params}{h:Heap}:∀(ns:List Int)(vs:List Value),WellAll P h vs (ns.map WData.int)→IntsAre vs ns:=by
 intro ns
 induction ns with
 |nil=>
  intro vs w;rw[List.map_nil]at w
  cases w
  exact .nil
 |cons n ns ih=>
  intro vs w;rw[List.map_cons]at w
  cases w with
  |cons a b=>
   cases a
   exact .cons _ _ (ih _ b)
theorem yd{l:OpenLaw}{n:Nat}(hn:l.most=some n){P:Params}{h:Heap}{args:List WData}{Vj:List Value}
  (Uu:l.row.toRowW.claim.pre args=true) (YS:WellAll P h Vj args):
  ∃a vs ns,Vj= [Value.ref a]∧args= [WData.list (ns.map WData.int)]∧h.get? a=some { cls:=.type "list",data:=.seq vs.toArray }∧IntsAre vs ns∧ns.length≤n:=by
 have YW:WShape.hasAll [] args [.list .int]=true:=(pre_splitW Uu).1;have hc:l.pre.holds [] { args:=args }=true:=(pre_splitW Uu).2;obtain⟨d,r,rfl,h1,h2⟩:=hasAllW_cons YW;obtain rfl:=hasAllW_nil h2;obtain⟨xs,rfl,h3⟩:=hasW_list h1;obtain⟨ns,rfl⟩:=items_int h3
 have Mi:ns.length≤n:=by
  unfold OpenLaw.pre at hc
  have h4:(WTm.not (.lt (.lit (.int (n:Int))) (.len (.arg 0)))).holds [] { args:=[.list (ns.map .int)] }=true:=by have h4:=(holds_andW hc).1;rw[hn]at h4;exact h4
  have h5:=condW_of h4 (w_not (w_lt w_lit (w_len_list (w_arg rfl))));rw[List.length_map]at h5;refine Nat.le_of_not_lt fun q=>?_;have q':(n:Int)<((ns.length:Nat):Int):=by omega
  first
   |(rw[decide_eq_true q']at h5;exact absurd h5 (by decide))
   |(simp at h5;omega)
 cases YS with
 |cons w1 w2=>
  cases w2
  cases w1 with
  |list ho R8=>exact⟨_,_,ns,rfl,rfl,ho,mX ns _ R8,Mi⟩
theorem yp(l:OpenLaw)(args:List WData):l.row.toRowW.claim.post args (.bool true) args=true:=
 postW_of (r:=l.row.toRowW) (X:=(true==true))
  (show WShape.has [] (.bool true) .bool=true by first|rfl|decide|simp[WShape.has,WShape.arms,WShape.armsAll])
  (show(WTm.eq .res (.lit (.bool true))).value [] { args:=args,res:=some (.bool true),after:=args }=some (.bool (true==true))from w_eq_bool (w_res rfl) w_lit) rfl
theorem Rv{l:OpenLaw}{n:Nat}{q:Program}{loose:List Str}{XP:(Str→Option Value)→Heap→Prop}{YP:World→Heap→Prop}{d:DefRec}
  (hn:l.most=some n) (W4:d.params.defaults= [])
  (call:∀(w:World)(s₀ s₁:Shared)(mg mb:Str→Option Value)(fa:Addr)(o:Obj)(pm cd doc:Value)(a:Addr)(vs:List Value)(ns:List Int),
   Ground q loose [] XP w s₀ mg mb s₁.heap→YP w s₁.heap→
   s₁.heap.get? fa=some o→o.data=.func (docDef d.name d.params d.body d.scope pm cd doc)→s₁.heap.CodeRec cd d.name→mg d.name=some (.ref fa)→
   s₁.heap.get? a=some { cls:=.type "list",data:=.seq vs.toArray }→IntsAre vs ns→ns.length≤n→s₁.gens= #[]→
   codeAny (model l.prog w) callerA (.call (.ref fa) ⟨[.ref a],[]⟩) (fun r s'=>r=.ok (.ret (.bool true))∧OldK s₁.heap s'.heap∧s'.os=s₁.os∧AllBare s'.gens) s₁):
  WalkO q loose XP YP l.row.toRowW d [] (fun f vs=>PySem.call f vs):=by
 intro w s₀ s₁ mg mb G Y fa o pm cd doc dV kV ho hd Qw hD WX hg args Vj as Uu acH hrd YS Vx;obtain rfl:dV=.none:=Dflts.none hD W4;obtain rfl:kV=.none:=Dflts.noKw hD;obtain⟨a,vs,ns,rfl,rfl,Vw,hints,Mi⟩:=yd hn Uu YS;refine enter_call (codeAny_mono (call w s₀ s₁ mg mb fa o pm cd doc a vs ns G Y ho (fd_plain hd) Qw WX Vw hints Mi hg) fun r s' hq=>?_);obtain⟨rfl,h2,h3,h4⟩:=hq;exact⟨.inl ⟨.bool true,.bool true,[],rfl,fun _=>rfl,.bool true,yp l _,fun _=>⟨List.Pairwise.nil,fun _ hm=>(nomatch hm)⟩⟩,h2,h3,h4⟩
end Att
namespace L2
open PySem PySem.Spec PyProof.Rows
theorem pO:∀{vs:List Value}{ns:List Int},IntsAre vs ns→bh (ns.map V.int) vs
 |_,_,.nil=>.nil
 |_,_,.cons n t h=>.cons ⟨t,rfl⟩ (pO h)
def GW(H:Hp):Prop:=∀b,H b=none∨∃o xs,H b=some (.QX o (.lst xs))
theorem Bi{P:Program}{w:World}{K:W.Frag}{mg mb:Str→Option Value}{CX:S_}{k:Nat}{fa a:Addr}{fd:FuncData}{x:Str}{sp:Sp}{s₁:Shared}{vs:List Value}{ns:List Int}
  (KX:K.In s₁.heap) (WW:s₁.heap.Ns mainGlobals mg) (hb:s₁.heap.Ns builtinsNs mb) (hbb:∀x:Str,x≠"__name__"→mb x=bootBuiltins x) (Y7:s₁.heap.NoLimit) (hg:s₁.gens= #[])
  (ha:s₁.heap.get? a=some { cls:=.type "list",data:=.seq vs.toArray }) (hi:IntsAre vs ns) (hl:ns.length≤sizeLine) (hr:cX k callerA)
  (F:∀base:Heap,K.In base→base.Ns mainGlobals mg→dE P w K mg base CX k fa fd [x] sp) (W6:∀(s:Shared)(u:Value),BindsTo s fd ⟨[u],[]⟩ [(x,u)])
  (U8:∀H:Hp,GW H→M_ K H a (ns.map V.int)→sp [.ref a] H (fun v _=>v=.bl true) fun _ _ _=>False)
  (Zm:∀H e s',CX [] H s₁ (fun _ _ _=>False) e s'→False):
  codeAny (model P w) callerA (.call (.ref fa) ⟨[.ref a],[]⟩) (fun r s'=>r=.ok (.ret (.bool true))∧OldK s₁.heap s'.heap∧s'.os=s₁.os∧AllBare s'.gens) s₁:=by
 have rv:=pO hi;have Yz:=hi.length
 have core:∀H:Hp,GW H→M_ K H a (ns.map V.int)→Ob P w H s₁.heap→(∀b,H b≠none→b=a)→(H a≠none→K.lookup a=none)→
   codeAny (model P w) callerA (.call (.ref fa) ⟨[.ref a],[]⟩) (fun r s'=>r=.ok (.ret (.bool true))∧OldK s₁.heap s'.heap∧s'.os=s₁.os∧AllBare s'.gens) s₁:=by
  intro H hO hS hok hA hK;have SM:∀{b:Addr}{o:Obj},s₁.heap.get? b=some o→H b=none→(rW s₁.heap H).get? b=some o:=fun e n=>Bs e n
  have Wx:∀{b:Addr}{o:Obj}{es:Array DictEntry}{ep:Nat},s₁.heap.get? b=some o→o.data=.dict es ep→H b=none:=fun{b o es ep} e d=>by
   cases q:H b with
   |none=>rfl
   |some u=>
    have e':b=a:=hA b (by rw[q];simp);subst e';rw[ha]at e;cases e;have d':Data.seq vs.toArray _=Data.dict es ep:=d
    cases d'
  have Xv:∀{b:Addr}{m:Str→Option Value},s₁.heap.Ns b m→(rW s₁.heap H).Ns b m:=fun{b m} ⟨o,es,ep,e,d,r⟩=>⟨o,es,ep,SM e (Wx e d),d,r⟩
  have hKb:K.In (rW s₁.heap H):=fun b o e=>SM (KX b o e) (by
   cases q:H b with
   |none=>rfl
   |some u=>have e':b=a:=hA b (by rw[q];simp);subst e';rw[hK (by rw[q];simp)]at e;cases e)
  have hM:Mod K mg (rW s₁.heap H):=⟨hKb,Xv WW,⟨mb,Xv hb,hbb⟩,let⟨mc,h1,h2⟩:=Y7;⟨mc,Xv h1,h2⟩⟩
  have e0:wk P w K mg (rW s₁.heap H) callerA [] s₁ H:=⟨rfl,hM,fun b o e=>Dm e,Nat.le_of_eq (yP _ _),trivial,fun b hb=>absurd (show b∈([]:List Addr)from hb) (by simp),hok,.of_eq hg⟩
  refine codeAny_mono ((F _ hKb (Xv WW)).run callerA [] s₁ H ⟨[.ref a],[]⟩ [.ref a] [.ref a] _ _ hr e0 (W6 s₁ (.ref a)) (.cons rfl .nil) (U8 H hO hS)) fun r s' h=>?_
  cases r with
  |error e=>exact(Zm H e s' h).elim
  |ok fl=>
   cases fl with
   |next=>exact False.elim h
   |brk=>exact False.elim h
   |cont=>exact False.elim h
   |ret u=>
    obtain⟨v,H',os,bare,un,YZ,r',q⟩:=h;have q':v=.bl true:=q;subst q';obtain rfl:u=Value.bool true:=r';refine⟨rfl,OldK.of_keep fun b o e=>?_,os,bare⟩
    cases q:H b with
    |none=>exact un.keep b o e q (by intro z;exact absurd (show b∈([]:List Addr)from z) (by simp)) (by simp)
    |some u=>
     rcases hO b with z|⟨ob,xs,z⟩
     ·rw[q]at z;cases z
     ·have z2:=un.MP b ob _ z;obtain⟨e1,_⟩:=hok b _ z;obtain⟨e2,_⟩:=YZ b _ z2;rw[e]at e1;cases e1;exact e2
 cases hk:K.lookup a with
 |some o=>
  have e:=KX a o hk;rw[ha]at e
  cases e
  refine core (fun _=>none) (fun _=>.inl rfl) (.inr ⟨_,vs.toArray,_,hk,rfl,rfl,rfl,by rw[List.size_toArray,Yz];exact hl,by simpa using rv⟩) (fun b u z=>by have z':(none:Option HO)=some u:=z;cases z') (fun b z=>absurd rfl z) fun z=>absurd rfl z
 |none=>
  refine core (fun b=>if b=a then some (.QX { cls:=.type "list",data:=.seq vs.toArray } (.lst (ns.map V.int)))else none) (fun b=>?_) (.inl (.inr ⟨{ cls:=.type "list",data:=.seq vs.toArray },if_pos rfl⟩)) (fun b u z=>?_) (fun b z=>?_) fun _=>hk
  ·by_cases hb:b=a
   ·exact .inr ⟨_,_,if_pos hb⟩
   ·exact .inl (if_neg hb)
  ·by_cases hb:b=a
   ·have z':=(if_pos hb).symm.trans z
    cases z'
    subst hb;exact⟨ha,by rw[List.length_map];exact hl,vs,_,rv,ha⟩
   ·have z':=(if_neg hb).symm.trans z
    cases z'
  ·by_cases hb:b=a
   ·exact hb
   ·exact absurd (if_neg hb) z
theorem Cn{l:W.OpenLaw}{n k:Nat}{q:Program}{loose:List Str}{XP:(Str→Option Value)→Heap→Prop}{YP:World→Heap→Prop}{d:DefRec}{K:Params→W.Frag}{CX:World→S_}{sp:World→Sp}{x:Str}
  (hn:l.most=some n) (hn2:n≤sizeLine) (W4:d.params.defaults= []) (hr:cX k callerA)
  (hY:∀(w:World)(h:Heap),YP w h→(K w.params).In h)
  (F:∀(w:World)(mg:Str→Option Value)(fa:Addr)(h:Heap),(K w.params).In h→h.Ns mainGlobals mg→mg d.name=some (.ref fa)→
   ∃fd:FuncData,(∀(s:Shared)(u:Value),BindsTo s fd ⟨[u],[]⟩ [(x,u)])∧
    ∀base:Heap,(K w.params).In base→base.Ns mainGlobals mg→dE l.prog w (K w.params) mg base (CX w) k fa fd [x] (sp w))
  (U8:∀(w:World)(H:Hp)(a:Addr)(ns:List Int),ns.length≤n→GW H→M_ (K w.params) H a (ns.map V.int)→sp w [.ref a] H (fun v _=>v=.bl true) fun _ _ _=>False)
  (Zm:∀(w:World)(H:Hp)(s:Shared)(e:Value)(s':Shared),CX w [] H s (fun _ _ _=>False) e s'→False):
  W.WalkO q loose XP YP l.row.toRowW d [] (fun f vs=>PySem.call f vs):=by
 refine Att.Rv hn W4 fun w s₀ s₁ mg mb fa o pm cd doc a vs ns G Y ho hd Qw WX Vw hints Mi hg=>?_;have KX:=hY w _ Y;obtain⟨fd,hb,hF⟩:=F w mg fa _ KX G.T.g WX;exact Bi KX G.T.g G.T.b G.T.builtins G.T.nolimit hg Vw hints (Nat.le_trans Mi hn2) hr hF hb (fun H hO hS=>U8 w H a ns Mi hO hS) fun H e s'=>Zm w H s₁ e s'
noncomputable def Dz(s:Stmt)(j:Nat):Stmt:=match s with
 |.ClassDef _ _ _ body _ _ _ _ _ _ _=>body.getD j (.Pass ⟨0,0,0,0⟩)
 |_=>.Pass ⟨0,0,0,0⟩
noncomputable def jV(s:Stmt):Arguments:=match s with
 |.FunctionDef _ a _ _ _ _ _ _ _ _=>a
 |_=> { posonlyargs:=[],args:=[],vararg:=none,kwonlyargs:=[],kw_defaults:=[],kwarg:=none,defaults:=[] }
noncomputable def dD(s:Stmt):List Stmt:=match s with
 |.FunctionDef _ _ b _ _ _ _ _ _ _=>b
 |_=> []
noncomputable def aP(s:Stmt):Scope:=match s with
 |.FunctionDef _ _ _ _ _ _ sc _ _ _=>sc
 |_=> { kind:=.function,names:=[],isGenerator:=false,isCoroutine:=false }
abbrev Py:S_:=fun _ _ _ _ _ _=>False
abbrev E0:XK:=fun _ _ _=>False
theorem HZ{X:Cx}:fE Py X E0:=fun _ _ _ _ _ _ _ h=>h.elim
structure Tn(K:W.Frag)(x C_:Str)(st:Stmt)(f:Addr)(fd:FuncData):Prop where
 ex:∃(oc:Value)(od:Option Addr)(kV doc pm:Value)(an:Option Addr)(Mg ct:Value)(Qv:Array (Option Value)),
  fd=W.fnOf x C_ (jV st) (dD st) (aP st) .none kV doc pm an Mg ct∧K.lookup f=some ⟨oc,od,.func fd,Qv⟩∧W.codeIn K Mg C_=true
 kp:W.keepIn K (.ref f)=true
section
variable{P:Program}{w:World}{K:W.Frag}{mg:Str→Option Value}{base:Heap}
theorem Tn.ok{x C_:Str}{st:Stmt}{f:Addr}{fd:FuncData}{N ps:List Str}{k:Nat}{sp:Sp}(F:Tn K x C_ st f fd)(S:gY N ps (aP st))(len:∀vs H Q E,sp vs H Q E→vs.length=ps.length)
  (TJ:∀(Mg:Value)(A:Around)(outer:List Env)(s:Shared)(H:Hp)(vs:List V)(Q:VK)(E:XK),cX k (A.deeper (envOfC C_ (aP st) s.heap.objs.size f Mg))→sp vs H Q E→
   ∃t,Q0 (jH Py P w K mg base N C_ (aP st) f Mg A outer s H E).U7 (dD st) t∧t { nx:=fun _ H'=>Q .non H',rt:=Q } (io N vs) H):dE P w K mg base Py (k+1) f fd ps sp:=by
 obtain⟨oc,od,kV,doc,pm,an,Mg,ct,Qv,rfl,lk,Qw⟩:=F.ex;refine By lk Qw S len fun A outer s H vs Q E hr U8=>?_;obtain⟨t,h,q⟩:=TJ Mg A outer s H vs Q E hr U8;exact⟨t,h.U7,q⟩
theorem Tn.binds{x C_:Str}{st:Stmt}{f:Addr}{fd:FuncData}{ps:List Str}(F:Tn K x C_ st f fd)
  (h:∀(kV doc pm:Value)(an:Option Addr)(Mg ct:Value)(us:List Value),us.length=ps.length→bindArgs (W.fnOf x C_ (jV st) (dD st) (aP st) .none kV doc pm an Mg ct) ⟨us,[]⟩=pure (ps.zip us)):fh K fd ps []:=by
 obtain⟨oc,od,kV,doc,pm,an,Mg,ct,Qv,rfl,lk,Qw⟩:=F.ex;exact .all (h kV doc pm an Mg ct)
theorem Bt{x C_:Str}{st:Stmt}{f:Addr}{oc:Value}{od an:Option Addr}{Qv:Array (Option Value)}{kV doc pm Mg ct:Value}(l:K.lookup f=some ⟨oc,od,.func (W.fnOf x C_ (jV st) (dD st) (aP st) .none kV doc pm an Mg ct),Qv⟩)
  (c:W.codeIn K Mg C_=true) (k:W.keepIn K (.ref f)=true):Tn K x C_ st f (W.fnOf x C_ (jV st) (dD st) (aP st) .none kV doc pm an Mg ct):=⟨⟨oc,od,kV,doc,pm,an,Mg,ct,Qv,rfl,l,c⟩,k⟩
end
section
variable{X:Cx}
theorem pv(i:Nat){x:Str}{pos:Pos}(hN:X.N[i]? =some x:=by rfl)(hv:Xd X.env.scope x:=by first|exact Or.inl rfl|exact Or.inr (Or.inl rfl)|exact Or.inr (Or.inr rfl))(hd:nD0 x:=by decide)
  (Qw:(x==("__classdict__":Str))=false:=by decide):PE X (.Name x pos) (Cq i):=vB hN hv hd Qw
end
theorem uz{A B:Prop}(h:B):if false=true then A else B:=by rw[if_neg Bool.false_ne_true];exact h
theorem rQ{A B:Prop}(h:A):if true=true then A else B:=by rw[if_pos rfl];exact h
def di(H H':Hp):Prop:=∀b o,H b=some o→H' b=some o
theorem di.refl(H:Hp):di H H:=fun _ _ h=>h
theorem di.trans{H H1 H2:Hp}(a:di H H1)(b:di H1 H2):di H H2:=fun c o h=>b c o (a c o h)
theorem di.free{H H':Hp}(e:di H H'){l:Addr}(h:H' l=Option.none):H l=Option.none:=by
 cases q:H l with
 |none=>rfl
 |some o=>
  rw[e l o q]at h
  cases h
theorem di.seq{K:W.Frag}{H H':Hp}{a:Addr}{xs:List V}(e:di H H')(h:M_ K H a xs):M_ K H' a xs:=by
 rcases h with(h|⟨o,h⟩)|h
 ·exact .inl (.inl (e _ _ h))
 ·exact .inl (.inr ⟨o,e _ _ h⟩)
 ·exact .inr h
end L2
set_option maxHeartbeats 4000000
namespace L2
open PySem PySem.Spec PyProof.Rows
noncomputable def Its(x:Str):It:=⟨fun i _=>i<x.cps.size,fun i H v H'=>H'=H∧∃c,x.cps[i]? =some c∧v=.str ⟨#[c]⟩,fun i _=>i=x.cps.size⟩
theorem tD{P:Program}{w:World}{K:PySem.W.Frag}{tg:Expr}{ty:String}(it:Addr)(x:Str)(t:Tok)
  (W:∀A:Around,A.handled=none→Walks P w A it [it] [it] x.cps.size (SignAt x) (fun i h=>h.IsStrIter it ty x t i))
  (Tz:∀(A:Around)(i:Nat)(s:Shared)(Q:Value→Shared→Prop)(E:Value→Shared→Prop),s.heap.IsStrIter it ty x t i→Q (.ref it) s→wpAny (model P w) A (pyIter (.ref it)) Q E s)
  (WR: ["enumerate","zip","dict_itemiterator","dict_reverseitemiterator","odict_iterator","itertools.zip_longest","itertools.pairwise"].contains ty=false):
  zg P w K tg (Its x) [it] it (fun i h=>h.IsStrIter it ty x t i) where
 mem:=by simp
 obj:=fun i h st b hb=>by
  have e:b=it:=by simpa using hb
  subst e;obtain⟨o,e,c,d⟩:=st;exact⟨o,e,fun v z=>by rw[d]at z;cases z⟩
 keep:=fun i h h' st k=>by obtain⟨o,e,r⟩:=st;exact⟨o,k it (by simp) o e,r⟩
 item:=by intro X hP hw hK hc i pins s σ H E I hf st hg;subst hP hw hK;obtain⟨f0,f1,f2,f3,f4,f5⟩:=hf it (by simp);refine(W X.A (I.ok.hd hc)).item i s _ _ hg st fun v h' tk hv RM kk=>?_;obtain⟨c,u,hcx,rfl⟩:=hv;have I1:Inv X pins σ H { s with heap:=h',toks:=tk }:=I.turned (fun b o hb e=>kk b o (by simpa using hb) e) f0 f1 f3 f4 f5;obtain⟨o,e,cc,d⟩:=id RM;exact⟨_,rfl,xv (s:={ s with heap:=h',toks:=tk }) e cc d WR ⟨.str ⟨#[c]⟩,H,I1,⟨u,rfl⟩,⟨rfl,c,hcx,rfl⟩,RM,fun b hb=>(hf b hb).1⟩⟩
 done:=by intro X hP hw hK hc i pins s σ H E I hf st hg;subst hP hw hK;obtain⟨f0,f1,f2,f3,f4,f5⟩:=hf it (by simp);have hg':i=x.cps.size:=hg;subst hg';exact(W X.A (I.ok.hd hc)).done s _ _ st fun h' tk kk=>⟨rfl,I.turned (fun b o hb e=>kk b o (by simpa using hb) e) f0 f1 f3 f4 f5⟩
 self:=Tz
section
variable{X:Cx}{tg:Expr}
def Kt(ts:TE):TI:=fun σ H R=>ts σ H fun v H1=>∃x,v=.str x∧R (Its x) H1
theorem FT{l:Expr}{tl:TE}(hl:PE X l tl):PI X tg l (Kt tl):=by
 intro pins s σ H R I h;refine J6 (hl pins s σ H _ I h) ?_;rintro v s1 ⟨x,H1,I1,r1,q1⟩;obtain⟨z,e,q⟩:=q1;subst e;obtain⟨t,rfl⟩:=r1
 cases ha:z.cps.all (· <128)
 ·refine wpAny_pyIter_wide ha ?_;refine⟨s1.heap.objs.size,[s1.heap.objs.size],_,_,H1,rfl,I1.kept (t':=s1.toks) fun b o e=>Heap.get?_push_of_some _ e,tD _ z t (fun A hA=>Walks.strWide hA _ z t) (fun _ _ _ _ _ st h=>wpAny_pyIter_striter_wide st h) (by decide),⟨_,Heap.get?_push_size _ rfl,rfl,rfl⟩,fun b hb=>?_,q⟩;have e:b=s1.heap.objs.size:=by simpa using hb
  subst e;exact I1.R_ (acg _) (I1.hok.fresh (acg _))
 ·refine wpAny_pyIter_ascii ha ?_;refine⟨s1.heap.objs.size,[s1.heap.objs.size],_,_,H1,rfl,I1.kept (t':=s1.toks) fun b o e=>Heap.get?_push_of_some _ e,tD _ z t (fun A hA=>Walks.strAscii hA _ z t) (fun _ _ _ _ _ st h=>wpAny_pyIter_striter_ascii st h) (by decide),⟨_,Heap.get?_push_size _ rfl,rfl,rfl⟩,fun b hb=>?_,q⟩;have e:b=s1.heap.objs.size:=by simpa using hb
  subst e;exact I1.R_ (acg _) (I1.hok.fresh (acg _))
end
noncomputable def eL(cells:List (Str×Addr)):List (Str×NameKind)→List (Str×Addr)→List (Str×Addr)
 |[],cs=>cs
 |(n,k)::r,cs=>eL cells r (if k==.free then(match cells.lookup n with|some a=>(n,a)::cs|none=>cs)else cs)
theorem kz{scope:Scope}{env:Env}(h:∀n,(n,NameKind.free)∈scope.names→∃c,env.cells.lookup n=some c):closureFor scope env=pure (eL env.cells scope.names []):=by
 unfold closureFor
 have go:∀(l:List (Str×NameKind))(cs:List (Str×Addr)),(∀n,(n,NameKind.free)∈l→∃c,env.cells.lookup n=some c)→
   (forIn l cs fun x r=>if(x.2==NameKind.free)=true then do let a ← cellOf env x.1;pure (ForInStep.yield ((x.1,a)::r))else pure (ForInStep.yield r):Sem (List (Str×Addr)))=pure (eL env.cells l cs):=by
  intro l
  induction l with
  |nil=>intro cs _;rfl
  |cons x r ih=>
   intro cs hl;obtain⟨n,k⟩:=x;rw[List.forIn_cons];have hr:∀n,(n,NameKind.free)∈r→∃c,env.cells.lookup n=some c:=fun y hy=>hl y (List.mem_cons_of_mem _ hy)
   by_cases hk:k=.free
   ·subst hk;obtain⟨c,hc⟩:=hl n List.mem_cons_self;have e:cellOf env n=pure c:=by unfold cellOf;rw[hc]
    simp only[beq_self_eq_true,if_true,e,pure_bind,eL,hc];exact ih _ hr
   ·have hb:(k==NameKind.free)=false:=by simpa using hk
    simp only[hb,Bool.false_eq_true,if_false,pure_bind,eL];exact ih _ hr
 have q:=go scope.names [] h;simp only[bind_pure];exact q
theorem qC(cells:List (Str×Addr)):∀(l:List (Str×NameKind))(cs:List (Str×Addr))(p:Str×Addr),p∈eL cells l cs→p∈cs∨(cells.lookup p.1=some p.2∧(p.1,NameKind.free)∈l)
 |[],cs,p,h=>.inl h
 |(n,k)::r,cs,p,h=>by
  unfold eL at h;rcases qC cells r _ p h with q|⟨q1,q2⟩
  ·by_cases hk:k=.free
   ·subst hk;simp only[beq_self_eq_true,if_true]at q
    cases e:cells.lookup n with
    |none=>rw[e]at q;exact .inl q
    |some a=>
     rw[e]at q;rcases List.mem_cons.mp q with rfl|q
     ·exact .inr ⟨e,List.mem_cons_self⟩
     ·exact .inl q
   ·have hb:(k==NameKind.free)=false:=by simpa using hk
    simp only[hb,Bool.false_eq_true,if_false]at q;exact .inl q
  ·exact .inr ⟨q1,List.mem_cons_of_mem _ q2⟩
theorem qB(cells:List (Str×Addr)):∀(l:List (Str×NameKind))(cs:List (Str×Addr))(p:Str×Addr),p∈cs→p∈eL cells l cs
 |[],_,_,h=>h
 |(n,k)::r,cs,p,h=>by
  unfold eL;refine qB cells r _ p ?_
  split
  ·split
   ·exact List.mem_cons_of_mem _ h
   ·exact h
  ·exact h
theorem qD(cells:List (Str×Addr)){x:Str}{c:Addr}(hc:cells.lookup x=some c):∀(l:List (Str×NameKind))(cs:List (Str×Addr)),(x,NameKind.free)∈l→(x,c)∈eL cells l cs
 |(n,k)::r,cs,h=>by
  unfold eL;rcases List.mem_cons.mp h with e|h
  ·cases e
   refine qB cells r _ _ ?_;simp only[beq_self_eq_true,if_true,hc];exact List.mem_cons_self
  ·exact qD cells hc r _ h
theorem kr{x:Str}{c:Addr}:∀{l:List (Str×Addr)},(x,c)∈l→∃c',l.lookup x=some c'
 |(y,d)::r,h=>by
  by_cases e:x=y
  ·subst e;exact⟨d,by simp[List.lookup_cons]⟩
  ·have hb:(x==y)=false:=by simpa using e
   rw[List.lookup_cons,hb];rcases List.mem_cons.mp h with q|q
   ·cases q;exact absurd rfl e
   ·exact kr q
theorem fC{cells:List (Str×Addr)}{l:List (Str×NameKind)}{x:Str}{c:Addr}(h:(eL cells l []).lookup x=some c):cells.lookup x=some c∧(x,NameKind.free)∈l:=by
 rcases qC cells l [] (x,c) (PySem.mem_of_lookup h)with q|q
 ·cases q
 ·exact q
theorem uM{cells:List (Str×Addr)}{l:List (Str×NameKind)}{x:Str}{c:Addr}(hc:cells.lookup x=some c)(h:(x,NameKind.free)∈l):(eL cells l []).lookup x=some c:=by obtain⟨c',e⟩:=kr (qD cells hc l [] h);rw[e,← hc,(fC e).1]
def Xg(X:Cx)(ifs:List Expr)(t:TT):Prop:=
 ∀(pins:List (Addr×Obj))(s:Shared)(σ:St)(H:Hp)(Q:Bool→Hp→Prop),Inv X pins σ H s→t σ H Q→
  wpAny (model X.prog X.w) X.A (forIn ifs true fun c r=>if r=true then do let ok ← isTrue c X.env (eval c X.env);pure (ForInStep.yield ok)else pure (ForInStep.yield r)) (TP X pins σ Q) X.xe s
noncomputable def Jp:TT:=fun _ H Q=>Q true H
theorem FX{X:Cx}:Xg X [] Jp:=fun _ _ _ H _ I h=>wpAny_tests_nil ⟨H,I,h⟩
theorem FW{X:Cx}{c:Expr}{t:TT}(h:PT X c t):Xg X [c] t:=fun pins s σ H Q I hw=>wpAny_tests_one (h pins s σ H Q I hw)
noncomputable def dI(X:Cx)(N:List Str)(scope:Scope)(cl:List (Str×Addr))(C:Addr)(ex:List Addr)(s:Shared)(H:Hp):Cx where
 prog:=X.prog
 w:=X.w
 K:=X.K
 mg:=X.mg
 base:=X.base
 A:=X.A
 N:=N
 s₀:=s
 H₀:=H
 env:=compEnvC scope cl C X.env
 outer:=X.stack
 stack:=X.stack
 ex:=ex
 fn:=fun _=>false
 calm:=true
 pn:=[]
 xe:=fun _ _=>False
structure eX(N:List Str)(Tv scope:Scope)(g8:List Nat)(x:Str)(M:List Str):Prop where
 kind:scope.kind=.function
 Ra:∀y∈scope.names,y.2≠.cell
 names:∀y∈scope.names,y.2=.local→scope.names.lookup y.1=some .local
 var:scope.names.lookup x=some .local
 free:∀y∈scope.names,y.2=.free→Tv.names.lookup y.1=some .cell∨Tv.names.lookup y.1=some .free
 inN:M=x::g8.map fun i=>N.getD i ""
 cap:∀i∈g8,i<N.length∧scope.names.lookup (N.getD i "")=some .free
 nd:M.Nodup
noncomputable def sH(N:List Str)(Tv scope:Scope)(g8:List Nat)(x:Str)(M:List Str):Bool:=
 decide (scope.kind=.function)&&decide (∀y∈scope.names,y.2≠.cell)&&decide (∀y∈scope.names,y.2=.local→scope.names.lookup y.1=some .local)&&decide (scope.names.lookup x=some .local)
  &&decide (∀y∈scope.names,y.2=.free→Tv.names.lookup y.1=some .cell∨Tv.names.lookup y.1=some .free)&&decide (M=x::g8.map fun i=>N.getD i "")
  &&decide (∀i∈g8,i<N.length∧scope.names.lookup (N.getD i "")=some .free)&&decide M.Nodup
theorem eX.of{N:List Str}{Tv scope:Scope}{g8:List Nat}{x:Str}{M:List Str}(h:sH N Tv scope g8 x M=true):eX N Tv scope g8 x M:=by unfold sH at h;simp only[acf]at h;obtain⟨⟨⟨⟨⟨⟨⟨a,b⟩,c⟩,d⟩,e⟩,f⟩,g⟩,i⟩:=h;exact⟨of_decide_eq_true a,of_decide_eq_true b,of_decide_eq_true c,of_decide_eq_true d,of_decide_eq_true e,of_decide_eq_true f,of_decide_eq_true g,of_decide_eq_true i⟩
noncomputable def gO(g8:List Nat)(σ:St):St:=g8.map fun i=>(σ[i]?).getD none
def zu(g8:List Nat)(wi:TI)(tt:TT)(te:TE):TE:=fun σ H Q=>wi σ H fun J H1=>∃W:Nat→Nat→List V→Hp→Prop,(∃m,W 0 m [] H1)∧
 ∀i m acc H,W i m acc H→(J.stop i H∧∀D,H D=none→Q (.ref D) (upd H D (.lst acc)))∨
  (J.go i H∧acc.length<sizeLine∧∀v H',J.Vi i H v H'→tt (some v::gO g8 σ) H' fun b H2=>if b=true then te (some v::gO g8 σ) H2 fun y H3=>∃m',m'<m∧W (i+1) m' (acc++ [y]) H3 else∃m',m'<m∧W (i+1) m' acc H2)
theorem Ob.adopt{P:Program}{w:World}{H:Hp}{h:Heap}{a:Addr}{o:HO}(x:Ob P w H h)(hn:H a=none)(new:bR P w (upd H a o) h a o):Ob P w (upd H a o) h:=fun b u e=>by
 by_cases hb:b=a
 ·subst hb;rw[aJ]at e;cases e;exact new
 ·rw[ak hb]at e;exact(x b u e).stay (fun c v _ q=>q) (fun c q=>by rw[ak (aD q hn)];exact q) fun c xs q=>by rw[ak (aD q hn)];exact q
theorem iS{env:Env}{x:Str}:∀{names:List (Str×NameKind)},(∀y∈names,y.2≠.cell)→∀{k:NameKind},
  (names.map fun(n,k)=>if(k==NameKind.free&&env.scope.kind==.function&&env.kindOf n==some .cell)then(n,NameKind.cell)else(n,k)).lookup x=some k→k=.cell∨k=.free→(x,NameKind.free)∈names
 |[],_,_,h,_=>by simp at h
 |(n,k0)::r,hn,k,h,hk=>by
  have ih:= @iS env x r (fun y hy=>hn y (List.mem_cons_of_mem _ hy)) k;rw[List.map_cons]at h
  by_cases hc:(k0==NameKind.free&&env.scope.kind==.function&&env.kindOf n==some .cell)=true
  ·have h2:List.lookup x ((n,NameKind.cell)::r.map fun(n,k)=>if(k==NameKind.free&&env.scope.kind==.function&&env.kindOf n==some .cell)then(n,NameKind.cell)else(n,k))=some k:=by have q:=h;simp only[hc,if_true]at q;exact q
   have hf:k0=.free:=by
    have z:(k0==NameKind.free)=true:=by
     cases e:(k0==NameKind.free)with
     |true=>rfl
     |false=>rw[e]at hc;simp at hc
    simpa using z
   by_cases e:x=n
   ·subst e;subst hf;exact List.mem_cons_self
   ·have hb:(x==n)=false:=by simpa using e
    rw[List.lookup_cons,hb]at h2;exact List.mem_cons_of_mem _ (ih h2 hk)
  ·have h2:List.lookup x ((n,k0)::r.map fun(n,k)=>if(k==NameKind.free&&env.scope.kind==.function&&env.kindOf n==some .cell)then(n,NameKind.cell)else(n,k))=some k:=by have q:=h;simp only[hc,if_false]at q;exact q
   by_cases e:x=n
   ·subst e;rw[List.lookup_cons,beq_self_eq_true]at h2;have e2:k0=k:=Option.some.inj h2;subst e2;rcases hk with z|z
    ·exact absurd z (hn (x,k0) List.mem_cons_self)
    ·subst z;exact List.mem_cons_self
   ·have hb:(x==n)=false:=by simpa using e
    rw[List.lookup_cons,hb]at h2;exact List.mem_cons_of_mem _ (ih h2 hk)
theorem lD{env:Env}{x:Str}:∀{names:List (Str×NameKind)},names.lookup x=some .free→
  (names.map fun(n,k)=>if(k==NameKind.free&&env.scope.kind==.function&&env.kindOf n==some .cell)then(n,NameKind.cell)else(n,k)).lookup x=some .cell∨
  (names.map fun(n,k)=>if(k==NameKind.free&&env.scope.kind==.function&&env.kindOf n==some .cell)then(n,NameKind.cell)else(n,k)).lookup x=some .free
 |[],h=>by simp at h
 |(n,k)::r,h=>by
  have ih:= @lD env x r;show List.lookup x ((if(k==NameKind.free&&env.scope.kind==.function&&env.kindOf n==some .cell)=true then(n,NameKind.cell)else(n,k))::_)=_∨List.lookup x ((if(k==NameKind.free&&env.scope.kind==.function&&env.kindOf n==some .cell)=true then(n,NameKind.cell)else(n,k))::_)=_
  by_cases hc:(k==NameKind.free&&env.scope.kind==.function&&env.kindOf n==some .cell)=true
  ·rw[if_pos hc]
   cases hx:x==n with
   |true=>left;simp[List.lookup_cons,hx]
   |false=>simp only[List.lookup_cons,hx]at h ⊢;exact ih h
  ·rw[if_neg hc]
   cases hx:x==n with
   |true=>
    simp only[List.lookup_cons,hx]at h
    right;simp[List.lookup_cons,hx,h]
   |false=>simp only[List.lookup_cons,hx]at h ⊢;exact ih h
theorem lX{prog:Program}{w:World}{A:Around}{R:Result→Shared→Prop}{s:Shared}{elt target iter:Expr}{ifs:List Expr}{scope:Scope}{pos:Pos}{it acc:Value}{env:Env}(I:Nat→Shared→Prop)
  (turn:∀n s,I n s→wpAny (model prog w) A (pyNext it) (fun r s₁=>match r with
   |none=>R (.ok .next) s₁
   |some v=>wpAny (model prog w) A (letOwnedTupleGo target it v) (fun _ s₂=>wpAny (model prog w) A (assign target env v) (fun _ s₃=>
     wpAny (model prog w) A (forIn ifs true fun c r=>if r=true then do let ok ← isTrue c env (eval c env);pure (ForInStep.yield ok)else pure (ForInStep.yield r)) (fun ok s₄=>
      if ok=true then wpAny (model prog w) A (eval elt env) (fun x s₅=>wpAny (model prog w) A (call (.builtin "list.append") [acc,x]) (fun _ s₆=>∃m,m<n∧I m s₆) (fun _ _=>False) s₅) (fun _ _=>False) s₄
      else∃m,m<n∧I m s₄) (fun _ _=>False) s₃) (fun _ _=>False) s₂) (fun _ _=>False) s₁) (fun _ _=>False) s)
  (n:Nat) (h:I n s):
  codeAny (model prog w) A (.compLoop (.ListComp elt [⟨target,iter,ifs,0⟩] scope pos) 0 it acc env) R s:=by
 refine codeAny_loop rfl I (fun n s hI=>?_) n h;show wpAny _ A ((compTurn (.ListComp elt [⟨target,iter,ifs,0⟩] scope pos) 0 it acc env).onRaise (fun x=>do noteFrame x env;theTreesLotGoes x)) _ _ s;refine wpAny_noted ?_;rw[compTurn_list];refine wpAny_bind (wpAny_standAt (wpAny_bind (wpAny_mono (turn n s hI) (fun r s₁ h₁=>?_) fun _ _ h'=>h'.elim)))
 cases r with
 |none=>exact wpAny_pure h₁
 |some v=>
  refine wpAny_bind (wpAny_mono h₁ (fun _ s₂ h₂=>wpAny_bind (wpAny_mono h₂ (fun _ s₃ h₃=>wpAny_bind (wpAny_mono h₃ (fun ok s₄ h₄=>?_) fun _ _ h'=>h'.elim)) fun _ _ h'=>h'.elim)) fun _ _ h'=>h'.elim)
  cases ok with
  |false=>exact wpAny_pure ⟨rfl,h₄⟩
  |true=>exact wpAny_bind (wpAny_bind (wpAny_mono h₄ (fun x s₅ h₅=>wpAny_bind (wpAny_mono h₅ (fun _ s₆ h₆=>wpAny_pure (wpAny_pure ⟨rfl,h₆⟩)) fun _ _ h'=>h'.elim)) fun _ _ h'=>h'.elim))
section
variable{X:Cx}
theorem Inv.cap{pins:List (Addr×Obj)}{σ:St}{H:Hp}{s:Shared}{i:Nat}{y:Str}{v:V}(I:Inv X pins σ H s)(hy:X.N[i]? =some y)(hv:σ[i]? =some (some v))(hk:X.env.kindOf y=some .cell∨X.env.kindOf y=some .free):
  ∃u c,bB v u∧X.env.cells.lookup y=some c∧s.heap.IsCell c (some u):=by
 obtain⟨m,hn,hl⟩:=I.loc;obtain⟨u,r,l⟩:=hl i y v hy hv (by rcases hk with h|h;exact .inr (.inl h);exact .inr (.inr h));rcases l with⟨h1,_⟩|⟨_,c,hc,z⟩
 ·rcases hk with h|h<;>(rw[h1]at h;cases h)
 ·exact⟨u,c,r,hc,z⟩
theorem oT{M:List Str}{scope:Scope}{g8:List Nat}{x:Str}{pins:List (Addr×Obj)}{σ:St}{H:Hp}{s s4:Shared}{fp:List Addr}{C:Addr}{m:Str→Option Value}
  (S:eX X.N X.env.scope scope g8 x M) (NZ:X.calm=true) (I:Inv X pins σ H s) (hf:∀b∈fp,kh X pins H b) (hfo:∀b∈fp,∃o,s.heap.get? b=some o)
  (hC:s.heap.objs.size≤C) (Uv:s4.os=s.os) (hg:AllBare s4.gens) (keep:∀b o,s.heap.get? b=some o→s4.heap.get? b=some o) (hn:s4.heap.Ns C m):
  Inv (dI X M scope (eL X.env.cells scope.names []) C fp s H) [] (none::gO g8 σ) H s4:=by
 have Ru:∀y c,(eL X.env.cells scope.names []).lookup y=some c→X.env.cells.lookup y=some c:=fun y c h=>(fC h).1
 have fresh:∀b o,s.heap.get? b=some o→b≠C:=fun b o e z=>by subst z;exact absurd (Nat.lt_of_lt_of_le (Heap.lt_size e) hC) (Nat.lt_irrefl _)
 have ok:(dI X M scope (eL X.env.cells scope.names []) C fp s H).Ok:=by
  refine⟨I.ok.mod,?_,I.ok.glob,I.ok.blt,hC,fun y z c h1 h2=>I.ok.inj y z c (Ru _ _ h1) (Ru _ _ h2),fun y hy=>?_,fun y c h _=>Bool.noConfusion h,fun _=>I.ok.hd NZ,I.ok.frames,.inl rfl,fun b hb=>⟨?_,fun y c h z=>?_⟩,
   I.bs,Nat.le_trans I.ok.Tg I.sz,fun b o e hb=>?_,fun b hb hs=>?_,I.stack,I.N7⟩
  ·exact S.kind
  ·have hm:(y,NameKind.free)∈scope.names:=by
    rcases hy with h|h
    ·exact iS S.Ra h (.inl rfl)
    ·exact iS S.Ra h (.inr rfl)
   obtain⟨c,hc⟩:=I.ok.has y (S.free _ hm rfl);exact⟨c,uM hc hm⟩
  ·obtain⟨o,e⟩:=hfo b hb;exact fresh b o e
  ·exact(hf b hb).2.2.2.2.1 y c (Ru y c h) z
  ·rcases(hf b hb).2.2.2.1 with z|z
   ·exact I.ok.Rm b o e z
   ·exact absurd (Nat.lt_of_lt_of_le (Heap.lt_size e) (Nat.le_trans I.ok.Tg z)) (Nat.lt_irrefl _)
  ·rcases List.mem_cons.mp (I.QD b hs)with z|z
   ·exact(hf b hb).2.1 z
   ·exact(hf b hb).2.2.1 z
 refine⟨ok,Uv,hg,Un.kept keep,⟨m,hn,fun i y v h1 h2 h3=>?_⟩,fun y c h=>?_,I.hok.fresh hC,fun y c h=>I.Nh y c (Ru y c h),fun p hp=>absurd (show p∈([]:List (Addr×Obj))from hp) (by simp),I.hok.kept keep,?_⟩
 ·have SJ:M[i]? =some y:=h1
  cases i with
  |zero=>simp at h2
  |succ j=>
   rw[S.inN]at SJ;simp only[List.getElem?_cons_succ,gO,List.getElem?_map]at SJ h2
   cases e:g8[j]? with
   |none=>rw[e]at SJ;simp at SJ
   |some k=>
    rw[e]at SJ h2;simp only[Option.map_some,Option.some.injEq]at SJ h2;obtain⟨c1,c2⟩:=S.cap k (List.mem_of_getElem? e);rw[SJ]at c2
    have hN:X.N[k]? =some y:=by rw[← SJ,List.getD_eq_getElem?_getD,List.getElem?_eq_getElem c1];rfl
    have hσ:σ[k]? =some (some v):=by
     cases q:σ[k]? with
     |none=>rw[q]at h2;cases h2
     |some z=>rw[q]at h2;simpa using h2
    obtain⟨u,c,r,hc,z⟩:=I.cap hN hσ (S.free (y,.free) (PySem.mem_of_lookup c2) rfl);obtain⟨oc,ho,hd⟩:=z;exact⟨u,r,.inr ⟨lD c2,c,uM hc (PySem.mem_of_lookup c2),oc,keep _ _ ho,hd⟩⟩
 ·obtain⟨v,oc,ho,hd⟩:=I.cell y c (Ru y c h);exact⟨v,oc,keep _ _ ho,hd⟩
 ·show _=M.length;rw[S.inN];simp[gO]
theorem qz{M:List Str}{scope:Scope}{cl:List (Str×Addr)}{pins Ml:List (Addr×Obj)}{σ σ':St}{H H':Hp}{s s':Shared}{fp:List Addr}{C D:Addr}{VN:Heap}{acc:List V}{its:List Value}
  (I:Inv X pins σ H s) (hf:∀b∈fp,kh X pins H b) (I':Inv (dI X M scope cl C fp s H) Ml σ' H' s') (hC:s.heap.objs.size≤C) (hD:s.heap.objs.size≤D) (Tf:D≠C) (hDn:H' D=none)
  (hl:s'.heap.PlainList D its.toArray) (rv:bh acc its) (hz:acc.length≤sizeLine) (sb:Heap.SameBut C s'.heap VN):
  Inv X pins σ (upd H' D (.lst acc)) { s' with heap:=VN }:=by
 have below:∀b o,s.heap.get? b=some o→b≠C∧b≠D:=fun b o e=>⟨fun z=>absurd (Nat.lt_of_lt_of_le (Heap.lt_size e) (by rw[z];exact hC)) (Nat.lt_irrefl _),fun z=>absurd (Nat.lt_of_lt_of_le (Heap.lt_size e) (by rw[z];exact hD)) (Nat.lt_irrefl _)⟩
 have Zk:H D=none:=I.hok.fresh hD;have B:Un (frs X.stack) fp H H' s.heap s'.heap:=I'.base;have hHC:H' C=none:=I'.free;obtain⟨n,el⟩:=hl
 have ok1:Ob X.prog X.w H' VN:=fun b u e=>by
  refine(show bR X.prog X.w H' s'.heap b u from I'.hok b u e).stay (fun c v hc q=>(sb.2 c ?_).trans q) (fun _ q=>q) fun _ _ q=>q;rcases hc with z|z
  ·rw[z];intro z2;rw[z2,hHC]at e;cases e
  ·intro z2;rw[z2,hHC]at z;cases z
 have ok2:Ob X.prog X.w (upd H' D (.lst acc)) VN:=ok1.adopt hDn ⟨hz,its,n,rv,(sb.2 D Tf).trans el⟩
 have U:Un (frs X.stack) fp H (upd H' D (.lst acc)) s.heap VN:=by
  refine⟨fun b o q n hb hx=>(sb.2 b (below b o q).1).trans (B.keep b o q n hb hx),fun b o q n hb hx=>?_,fun b o q n hx=>?_,fun b o q hx=>?_,fun b xs q=>?_,fun b o u q=>?_,fun b ps q=>?_⟩
  ·obtain⟨sl,e⟩:=B.slot b o q n hb hx;exact⟨sl,(sb.2 b (below b o q).1).trans e⟩
  ·rw[ak (below b o q).2];exact B.free b o q n hx
  ·obtain⟨o',e⟩:=B.there b o q hx;exact⟨o',(sb.2 b (below b o q).1).trans e⟩
  ·rw[ak (aD q Zk)];exact B.tups b xs q
  ·rw[ak (aD q Zk)];exact B.MP b o u q
  ·rw[ak (aD q Zk)];exact B.Ph b ps q
 have os:s'.os=s.os:=I'.os;exact I.call' (s':={ s' with heap:=VN }) (ch:=fp) os U ok2 I'.bare fun b hb=>⟨(hf b hb).2.2.2.1,(hf b hb).2.1,(hf b hb).2.2.2.2.1,(hf b hb).2.2.2.2.2⟩
theorem xj{elt iter:Expr}{x:Str}{px:Pos}{ifs:List Expr}{scope:Scope}{pos:Pos}{wi:TI}{tt:TT}{te:TE}{M:List Str}(g8:List Nat)(NZ:X.calm=true)(S:eX X.N X.env.scope scope g8 x M)
  (hi:PI X (.Name x px) iter wi) (ht:∀cl C ex s H,Xg (dI X M scope cl C ex s H) ifs tt) (he:∀cl C ex s H,PE (dI X M scope cl C ex s H) elt te)
  (hs:∀y,foldedSetIterable iter X.env y=pure y:=by intro _;rfl):PE X (.ListComp elt [⟨.Name x px,iter,ifs,0⟩] scope pos) (zu g8 wi tt te):=by
 intro pins s σ H Q I h;rw[eval_ListComp];refine wpAny_comprehension_free (use:=none) rfl hs (kz fun n hn=>I.ok.has n (S.free _ hn rfl)) S.kind S.names ?_;refine J6 (hi pins s σ H _ I h) fun v s1 h1=>J6 h1 fun XF s2 h2=>?_;obtain⟨it,fp,tn,J,H2,e,I2,T,Uo,f2,W,⟨m0,w0⟩,turn⟩:=h2;subst e;refine wpAny_newObj_type (wpAny_newFunctionEnv S.Ra (by intro y hy;simp at hy) (fun h₁ R7 Rb=>?_) S.kind);dsimp only at R7 Rb ⊢;generalize hH2:s2.heap.push { cls:=.type "list",dict:=none,data:=.seq ([]:List Value).toArray }=P2 at R7 Rb ⊢;have VL:P2.objs.size=s2.heap.objs.size+1:=by rw[← hH2,Heap.size_push]
 have Tf:s2.heap.objs.size≠P2.objs.size:=by rw[VL];exact Nat.ne_of_lt (Nat.lt_succ_self _)
 have QW:s2.heap.objs.size≤P2.objs.size:=by rw[VL];exact Nat.le_succ _
 have below:∀b,b<s2.heap.objs.size→b≠P2.objs.size:=fun b hb=>by rw[VL];exact Nat.ne_of_lt (Nat.lt_succ_of_lt hb)
 have old:∀b o,s2.heap.get? b=some o→h₁.get? b=some o:=fun b o e=>Rb.extBut b o (below b (Heap.lt_size e)) (Heap.get?_push_of_some _ (hH2▸Heap.get?_push_of_some _ e));have VG:h₁.PlainList s2.heap.objs.size #[]:=⟨_,Rb.extBut _ _ Tf (Heap.get?_push_of_some _ (hH2▸Heap.get?_push_size _ rfl))⟩
 have V0:∀b∈fp,∃o,s2.heap.get? b=some o∧∀v,o.data≠.cell v:=T.obj 0 _ Uo
 have W_:s2.heap.objs.size∉fp:=fun hb=>by obtain⟨o,e,_⟩:=V0 _ hb;exact absurd (Heap.lt_size e) (Nat.lt_irrefl _)
 have hDs:∀{c:Addr}{o:Obj},s2.heap.get? c=some o→c≠s2.heap.objs.size:=fun e=>Nat.ne_of_lt (Heap.lt_size e)
 let Y:Cx:=dI X M scope (eL X.env.cells scope.names []) P2.objs.size fp s2 H2
 have I4:Inv Y [] (none::gO g8 σ) H2 { s2 with heap:=h₁,toks:=s2.toks+([]:List (Str×Value)).length }:=
  oT S NZ I2 f2 (fun b hb=>let⟨o,e,_⟩:=V0 b hb;⟨o,e⟩) QW rfl I2.bare old R7
 have Zr:∀{Ml:List (Addr×Obj)}{H':Hp},(∀b∈fp,H' b=none)→(∀p∈Ml,p.1∉fp)→∀b∈fp,kh Y Ml H' b:=fun{Ml H'} hn hp b hb=>by
  obtain⟨o,e,_⟩:=V0 b hb;refine⟨hn b hb,below b (Heap.lt_size e),fun hs=>?_,.inl hb,fun y c h=>(f2 b hb).2.2.2.2.1 y c (fC h).1,fun p V7 z=>hp p (show p∈Ml from by have q:p∈ []++Ml:=V7;simpa using q) (by rw[z];exact hb)⟩;rcases List.mem_cons.mp (I2.QD b hs)with z|z
  ·exact(f2 b hb).2.1 z
  ·exact(f2 b hb).2.2.1 z
 have Z6:s2.heap.objs.size∉Y.fs:=fun hs=>by obtain⟨_,o,ho,_⟩:=I2.stack.mem hs;exact absurd (Heap.lt_size ho) (Nat.lt_irrefl _)
 have T4:∀y c,Y.env.cells.lookup y=some c→c≠s2.heap.objs.size:=fun y c h z=>by obtain⟨v,q⟩:=I2.cell y c (fC h).1;rw[z]at q;exact absurd q.lt (Nat.lt_irrefl _)
 have loop:∀s₃:Shared,s₃={ s2 with heap:=h₁,toks:=s2.toks+([]:List (Str×Value)).length }→
   codeAny (model X.prog X.w) X.A (.compLoop (.ListComp elt [⟨.Name x px,iter,ifs,0⟩] scope pos) 0 (.ref it) (.ref s2.heap.objs.size) (compEnvC scope (eL X.env.cells scope.names []) P2.objs.size X.env))
    (compPost (model X.prog X.w) X.A X.xe none (EP X pins σ Q) (.ref s2.heap.objs.size) P2.objs.size) s₃:=by
  rintro s₃ rfl
  refine lX (fun n s'=>∃i acc H' its,Inv Y [] (none::gO g8 σ) H' s'∧tn i s'.heap∧(∀b∈fp,H' b=none)∧H' s2.heap.objs.size=none∧s'.heap.PlainList s2.heap.objs.size its∧bh acc its.toList∧acc.length≤sizeLine∧W i n acc H') ?_ m0
   ⟨0,[],H2, #[],I4,T.keep 0 _ _ Uo (fun b hb o e=>old b o e),fun b hb=>(f2 b hb).1,I2.hok.fresh (acg _),VG,.nil,Nat.zero_le _,w0⟩
  rintro n s5 ⟨i,acc,H5,its,I5,Um,VP,VJ,Y9,Uq,WQ,w5⟩
  have W5:Y.calm=true:=rfl;obtain⟨nn,Zw⟩:=Y9
  have V4:Inv Y [(s2.heap.objs.size,{ cls:=.type "list",data:=.seq its nn })] (none::gO g8 σ) H5 s5:=I5.Mv fun p hp=>by
   have e:p=(s2.heap.objs.size,{ cls:=.type "list",data:=.seq its nn }):=by simpa using hp
   subst e;exact⟨Zw,VJ,Tf,Z6,fun v z=>by cases z⟩
  have VR:∀{H':Hp},(∀b∈fp,H' b=none)→∀b∈fp,kh Y [(s2.heap.objs.size,{ cls:=.type "list",data:=.seq its nn })] H' b:=fun hn=>Zr hn fun p hp=>by
   have e:p=(s2.heap.objs.size,{ cls:=.type "list",data:=.seq its nn }):=by simpa using hp
   subst e;exact W_
  have Vn:bh acc its.toList:=Uq;rcases turn i n acc H5 w5 with⟨stop,qn⟩|⟨go,Rc,step⟩
  ·refine J6 (T.done Y rfl rfl rfl W5 i _ s5 _ H5 (fun _ _=>False) V4 (VR VP) Um stop) ?_;rintro r s6 ⟨hr,I6⟩;subst hr;obtain⟨m6,Y6,_⟩:=id I6.loc;obtain⟨p1,p2,_⟩:=I6.pin (s2.heap.objs.size,{ cls:=.type "list",data:=.seq its nn }) (by simp);refine⟨m6,Y6,fun h' sb=>⟨.ref s2.heap.objs.size,upd H5 s2.heap.objs.size (.lst acc),?_,rfl,qn _ VJ⟩⟩;exact qz (its:=its.toList) I2 f2 I6 QW (acg _) Tf VJ (show s6.heap.PlainList s2.heap.objs.size its.toList.toArray from⟨nn,by rw[Array.toArray_toList];exact p1⟩) Vn WQ sb
  ·refine J6 (T.item Y rfl rfl rfl W5 i _ s5 _ H5 (fun _ _=>False) V4 (VR VP) Um go) ?_;rintro r s6 ⟨u,hr,h6⟩;subst hr;refine J6 h6 ?_;rintro _ s7 ⟨v7,H7,I7,r7,y7,Vl,Zq⟩;have Z2:=I7.pinned (VR Zq) (T.obj _ _ Vl);have hg:PG Y (.Name x px) (xw 0):=ny (X:=Y) (i:=0) S.nd (by show M[0]? =some x;rw[S.inN];rfl) (Or.inl (lookup_relabel_local S.var)) (.inr (lookup_relabel_local S.var));refine J6 (hg _ s7 _ H7 v7 u (fun σ8 H8=>σ8=some v7::gO g8 σ∧H8=H7) Z2 r7 ⟨rfl,rfl⟩) ?_;rintro _ s8 ⟨σ8,H8,I8,e8,Zx⟩;subst e8 Zx;refine J6 (ht _ _ _ _ _ _ s8 _ _ _ I8 (step v7 _ y7)) ?_;rintro b s9 ⟨H9,I9,q9⟩
   have tail:∀{σ':St}{H':Hp}{s':Shared},Inv Y ([(s2.heap.objs.size,{ cls:=.type "list",data:=.seq its nn })]++mt fp s7.heap) σ' H' s'→
     tn (i+1) s'.heap∧(∀b∈fp,H' b=none)∧s'.heap.get? s2.heap.objs.size=some { cls:=.type "list",data:=.seq its nn }∧H' s2.heap.objs.size=none:=fun{σ' H' s'} J=>by
    refine⟨T.keep _ _ _ Vl fun b hb o e=>(J.pin (b,o) (List.mem_append_right _ (List.mem_append_right _ (fy hb e)))).1,fun b hb=>?_,?_⟩
    ·obtain⟨o,e,d⟩:=T.obj _ _ Vl b hb;exact(J.pin (b,o) (List.mem_append_right _ (List.mem_append_right _ (fy hb e)))).2.1
    ·have p:=J.pin (s2.heap.objs.size,{ cls:=.type "list",data:=.seq its nn }) (by simp);exact⟨p.1,p.2.1⟩
   cases b with
   |false=>
    obtain⟨m',hm,w9⟩:=(show∃m',m'<n∧W (i+1) m' acc H9 from by simpa using q9)
    obtain⟨t1,t2,t3,t4⟩:=tail I9;refine⟨m',hm,i+1,acc,H9,its,?_,t1,t2,t4,⟨nn,t3⟩,Uq,WQ,w9⟩
    exact(I9.Mv (Ml:=[]) fun p hp=>absurd hp (by simp)).weak (by simp) fun j w z=>by
     cases j with
     |zero=>simp at z
     |succ j=>simpa using z
   |true=>
    have Yr:te (some v7::gO g8 σ) H9 fun y H3=>∃m',m'<n∧W (i+1) m' (acc++ [y]) H3:=by simpa using q9
    refine J6 (he _ _ _ _ _ _ s9 _ _ _ I9 Yr) ?_;rintro Yl Wm ⟨y,Xk,Xj,r10,m',hm,w10⟩;obtain⟨t1,t2,t3,t4⟩:=tail Xj;have lz:its.size=acc.length:=by rw[Uq.length];simp
    refine wpAny_list_append_plain ⟨nn,t3⟩ (fun h' TF Wk=>?_) (by omega)
    have Z4:Inv Y [] (some v7::gO g8 σ) Xk { Wm with heap:=h',toks:=Wm.toks }:=
     (Xj.Mv (Ml:=[]) fun p hp=>absurd hp (by simp)).turned (it:=s2.heap.objs.size) (fun b o hb e=>(Wk.2 b hb).trans e) t4 Tf (.inr (acg _)) T4 (fun p hp=>absurd (show p∈([]:List (Addr×Obj))from hp) (by simp))
    refine⟨m',hm,i+1,acc++ [y],Xk,its.push Yl,?_,T.keep _ _ _ t1 (fun b hb o e=>(Wk.2 b (fun z=>W_ (z▸hb))).trans e),t2,t4,TF,?_,?_,w10⟩
    ·exact Z4.weak (by simp) fun j w z=>by
      cases j with
      |zero=>simp at z
      |succ j=>simpa using z
    ·rw[Array.toList_push];exact Uq.append (.cons r10 .nil)
    ·rw[List.length_append,List.length_singleton];omega
 exact codeAny_compStart_list (loop _ rfl) (T.self X.A 0 _ _ _ (T.keep 0 _ _ Uo (fun b hb o e=>old b o e)) (loop _ rfl))
end
section
variable{X:Cx}
def HE:V→Option Int→Option Int→Hp→VK→Prop:=fun x lo hi H Q=>∃z,x=.str z∧z.length≤sizeLine∧Q (.str (Txt.slice z lo hi)) H
theorem Fo:Tj X HE:=by
 intro pins s σ H x v vl vu lo hi sl Q I rx hs pl pu h;obtain⟨z,rfl,hz,q⟩:=h;obtain⟨t,rfl⟩:=rx;refine⟨"str",_,PySem.F.slot_str_getitem.lookup,typeIs_str _ _ _,?_⟩;have fin:∀t' k,EP X pins σ Q (.str (Txt.slice z lo hi) t') { s with toks:=k }:=fun t' k=>⟨.str _,H,I.tok k,⟨t',rfl⟩,q⟩
 obtain⟨o,e,c,d⟩:=hs
 cases pl with
 |none=>cases pu with
  |none=>exact wpAny_getItem_str_slice (l:=none) (u:=none) (st:=none) ⟨o,e,c,d⟩ rfl (post_val_or_str ⟨Nat.le_trans (Txt.slice_le z _ _) hz,fin⟩)
  |int j u=>exact wpAny_getItem_str_slice (l:=none) (u:=some (j,u)) (st:=none) ⟨o,e,c,d⟩ rfl (post_val_or_str ⟨Nat.le_trans (Txt.slice_le z _ _) hz,fin⟩)
 |int i u1=>cases pu with
  |none=>exact wpAny_getItem_str_slice (l:=some (i,u1)) (u:=none) (st:=none) ⟨o,e,c,d⟩ rfl (post_val_or_str ⟨Nat.le_trans (Txt.slice_le z _ _) hz,fin⟩)
  |int j u=>exact wpAny_getItem_str_slice (l:=some (i,u1)) (u:=some (j,u)) (st:=none) ⟨o,e,c,d⟩ rfl (post_val_or_str ⟨Nat.le_trans (Txt.slice_le z _ _) hz,fin⟩)
theorem nO:∀{ys:List Str}{us:List Value},bh (ys.map V.str) us→StrsAre us ys
 |[],_,.nil=>.nil
 |y::r,_,.cons h t=>by obtain⟨tk,e⟩:=h;subst e;exact .cons y tk (nO t)
def Ep(K:W.Frag):V→List V→Hp→VK→Prop:=fun x xs H Q=>∃sep p ys,x=.str sep∧xs= [.ref p]∧M_ K H p (ys.map V.str)∧(ys.map (·.length)).sum+ys.length * sep.length≤16777216∧Q (.str (Txt.join sep ys)) H
theorem Dr:Xi X "str.join" (Ep X.K):=by
 intro pins s σ H x xs v us Q I rx rv h;obtain⟨sep,p,ys,rfl,rfl,hp,hz,q⟩:=h;obtain⟨t,rfl⟩:=rx;obtain⟨u,rfl,ru⟩:=rv.one
 cases ru
 obtain⟨its,r,pl,_⟩:=I.list hp;exact join_list pl.isList (by simpa using nO r) hz fun t' k=>⟨.str _,H,I.tok k,⟨t',rfl⟩,q⟩
noncomputable def Eo:R2:=fun x y H Q=>∃z k,x=.str z∧y=.int k∧MulOk z k∧Q (.str (Txt.mul z k)) H
theorem vH:Nq X (binaryOp .Mult) Eo:=by intro pins s σ H x y v u Q I rx ry h;obtain⟨z,k,rfl,rfl,hk,q⟩:=h;obtain⟨t,rfl⟩:=rx;obtain⟨t2,rfl⟩:=ry;exact SB.mul hk fun t' c=>⟨.str _,H,I.tok c,⟨t',rfl⟩,q⟩
end
theorem fR{H:Hp}{p:Addr}(h:H p=none)(o:HO):di H (upd H p o):=fun b u q=>by rw[ak (aD q h)];exact q
theorem di.Qs{K:W.Frag}{H H':Hp}{a:Addr}{xs:List V}(e:di H H')(h:NP K H a xs):NP K H' a xs:=by
 rcases h with(h|⟨o,h⟩)|h
 ·exact .inl (.inl (e _ _ h))
 ·exact .inl (.inr ⟨o,e _ _ h⟩)
 ·exact .inr h
theorem dJ{α:Type}{xs:List α}{j:Int}{v:α}(h0:0≤j)(h:xs[j.toNat]? =some v):Np xs j=some v:=by obtain⟨k,rfl⟩:=Int.eq_ofNat_of_zero_le h0;exact DV (by simpa using h)
open PySem.W
section
variable{X:Cx}
theorem om{elt iter:Expr}{x:Str}{px:Pos}{ifs:List Expr}{scope:Scope}{pos:Pos}{wi:TI}{y:Str}{py RN:Pos}{iy:Nat}{tt:TT}{te:TE}{M:List Str}(g8:List Nat)(NZ:X.calm=true)(S:eX X.N X.env.scope scope g8 x M)
  (hi:PI X (.Name x px) iter wi) (ht:∀cl C ex s H,Xg (dI X M scope cl C ex s H) ifs tt) (he:∀cl C ex s H,PE (dI X M scope cl C ex s H) elt te)
  (W7:X.N.Nodup) (hy:X.N[iy]? =some y) (V_:X.env.scope.names.lookup y=some .local) (WT:swapsWith (.ListComp elt [⟨.Name x px,iter,ifs,0⟩] scope pos) (some (.Name y py)) RN.line X.env=pure true)
  (hs:∀y,foldedSetIterable iter X.env y=pure y:=by intro _;rfl):PS X (.Assign [.Name y py] (.ListComp elt [⟨.Name x px,iter,ifs,0⟩] scope pos) RN) (fun D σ H=>zu g8 wi tt te σ H fun v H1=>D.nx (σ.set iy (some v)) H1):=by
 intro pins s σ H D I h;rw[exec_Assign_Name_used _ _ _ _ WT];refine wpAny_bind<|wpAny_standAt<|wpAny_bind ?_
 show wpAny _ X.A (comprehension (.ListComp elt [⟨.Name x px,iter,ifs,0⟩] scope pos) scope X.env _ (newList []) false (eval iter X.env) (some (assign (.Name y py) X.env)) >>= fun _=>pure ()) _ _ s;refine wpAny_bind<|wpAny_mono (wpAny_comprehension_free (use:=some (assign (.Name y py) X.env)) (Q:=fun _ s'=>SP X pins D .next s') rfl hs (kz fun n hn=>I.ok.has n (S.free _ hn rfl)) S.kind S.names ?_) (fun _ _ z=>wpAny_pure (wpAny_pure z)) fun _ _ z=>z
 refine J6 (hi pins s σ H _ I h) fun v s1 h1=>J6 h1 fun XF s2 h2=>?_;obtain⟨it,fp,tn,J,H2,e,I2,T,Uo,f2,W,⟨m0,w0⟩,turn⟩:=h2;subst e;refine wpAny_newObj_type (wpAny_newFunctionEnv S.Ra (by intro y hy;simp at hy) (fun h₁ R7 Rb=>?_) S.kind);dsimp only at R7 Rb ⊢;generalize hH2:s2.heap.push { cls:=.type "list",dict:=none,data:=.seq ([]:List Value).toArray }=P2 at R7 Rb ⊢;have VL:P2.objs.size=s2.heap.objs.size+1:=by rw[← hH2,Heap.size_push]
 have Tf:s2.heap.objs.size≠P2.objs.size:=by rw[VL];exact Nat.ne_of_lt (Nat.lt_succ_self _)
 have QW:s2.heap.objs.size≤P2.objs.size:=by rw[VL];exact Nat.le_succ _
 have below:∀b,b<s2.heap.objs.size→b≠P2.objs.size:=fun b hb=>by rw[VL];exact Nat.ne_of_lt (Nat.lt_succ_of_lt hb)
 have old:∀b o,s2.heap.get? b=some o→h₁.get? b=some o:=fun b o e=>Rb.extBut b o (below b (Heap.lt_size e)) (Heap.get?_push_of_some _ (hH2▸Heap.get?_push_of_some _ e));have VG:h₁.PlainList s2.heap.objs.size #[]:=⟨_,Rb.extBut _ _ Tf (Heap.get?_push_of_some _ (hH2▸Heap.get?_push_size _ rfl))⟩
 have V0:∀b∈fp,∃o,s2.heap.get? b=some o∧∀v,o.data≠.cell v:=T.obj 0 _ Uo
 have W_:s2.heap.objs.size∉fp:=fun hb=>by obtain⟨o,e,_⟩:=V0 _ hb;exact absurd (Heap.lt_size e) (Nat.lt_irrefl _)
 have hDs:∀{c:Addr}{o:Obj},s2.heap.get? c=some o→c≠s2.heap.objs.size:=fun e=>Nat.ne_of_lt (Heap.lt_size e)
 let Y:Cx:=dI X M scope (eL X.env.cells scope.names []) P2.objs.size fp s2 H2
 have I4:Inv Y [] (none::gO g8 σ) H2 { s2 with heap:=h₁,toks:=s2.toks+([]:List (Str×Value)).length }:=
  oT S NZ I2 f2 (fun b hb=>let⟨o,e,_⟩:=V0 b hb;⟨o,e⟩) QW rfl I2.bare old R7
 have Zr:∀{Ml:List (Addr×Obj)}{H':Hp},(∀b∈fp,H' b=none)→(∀p∈Ml,p.1∉fp)→∀b∈fp,kh Y Ml H' b:=fun{Ml H'} hn hp b hb=>by
  obtain⟨o,e,_⟩:=V0 b hb;refine⟨hn b hb,below b (Heap.lt_size e),fun hs=>?_,.inl hb,fun y c h=>(f2 b hb).2.2.2.2.1 y c (fC h).1,fun p V7 z=>hp p (show p∈Ml from by have q:p∈ []++Ml:=V7;simpa using q) (by rw[z];exact hb)⟩;rcases List.mem_cons.mp (I2.QD b hs)with z|z
  ·exact(f2 b hb).2.1 z
  ·exact(f2 b hb).2.2.1 z
 have Z6:s2.heap.objs.size∉Y.fs:=fun hs=>by obtain⟨_,o,ho,_⟩:=I2.stack.mem hs;exact absurd (Heap.lt_size ho) (Nat.lt_irrefl _)
 have T4:∀y c,Y.env.cells.lookup y=some c→c≠s2.heap.objs.size:=fun y c h z=>by obtain⟨v,q⟩:=I2.cell y c (fC h).1;rw[z]at q;exact absurd q.lt (Nat.lt_irrefl _)
 have loop:∀s₃:Shared,s₃={ s2 with heap:=h₁,toks:=s2.toks+([]:List (Str×Value)).length }→
   codeAny (model X.prog X.w) X.A (.compLoop (.ListComp elt [⟨.Name x px,iter,ifs,0⟩] scope pos) 0 (.ref it) (.ref s2.heap.objs.size) (compEnvC scope (eL X.env.cells scope.names []) P2.objs.size X.env))
    (compPost (model X.prog X.w) X.A X.xe (some (assign (.Name y py) X.env)) (fun _ s'=>SP X pins D .next s') (.ref s2.heap.objs.size) P2.objs.size) s₃:=by
  rintro s₃ rfl
  refine lX (fun n s'=>∃i acc H' its,Inv Y [] (none::gO g8 σ) H' s'∧tn i s'.heap∧(∀b∈fp,H' b=none)∧H' s2.heap.objs.size=none∧s'.heap.PlainList s2.heap.objs.size its∧bh acc its.toList∧acc.length≤sizeLine∧W i n acc H') ?_ m0
   ⟨0,[],H2, #[],I4,T.keep 0 _ _ Uo (fun b hb o e=>old b o e),fun b hb=>(f2 b hb).1,I2.hok.fresh (acg _),VG,.nil,Nat.zero_le _,w0⟩
  rintro n s5 ⟨i,acc,H5,its,I5,Um,VP,VJ,Y9,Uq,WQ,w5⟩
  have W5:Y.calm=true:=rfl;obtain⟨nn,Zw⟩:=Y9
  have V4:Inv Y [(s2.heap.objs.size,{ cls:=.type "list",data:=.seq its nn })] (none::gO g8 σ) H5 s5:=I5.Mv fun p hp=>by
   have e:p=(s2.heap.objs.size,{ cls:=.type "list",data:=.seq its nn }):=by simpa using hp
   subst e;exact⟨Zw,VJ,Tf,Z6,fun v z=>by cases z⟩
  have VR:∀{H':Hp},(∀b∈fp,H' b=none)→∀b∈fp,kh Y [(s2.heap.objs.size,{ cls:=.type "list",data:=.seq its nn })] H' b:=fun hn=>Zr hn fun p hp=>by
   have e:p=(s2.heap.objs.size,{ cls:=.type "list",data:=.seq its nn }):=by simpa using hp
   subst e;exact W_
  have Vn:bh acc its.toList:=Uq;rcases turn i n acc H5 w5 with⟨stop,qn⟩|⟨go,Rc,step⟩
  ·refine J6 (T.done Y rfl rfl rfl W5 i _ s5 _ H5 (fun _ _=>False) V4 (VR VP) Um stop) ?_;rintro r s6 ⟨hr,I6⟩;subst hr;obtain⟨m6,Y6,_⟩:=id I6.loc;obtain⟨p1,p2,_⟩:=I6.pin (s2.heap.objs.size,{ cls:=.type "list",data:=.seq its nn }) (by simp);have J0:Inv X pins σ (upd H5 s2.heap.objs.size (.lst acc)) s6:=qz (its:=its.toList) (VN:=s6.heap) I2 f2 I6 QW (acg _) Tf VJ (show s6.heap.PlainList s2.heap.objs.size its.toList.toArray from⟨nn,by rw[Array.toArray_toList];exact p1⟩) Vn WQ ⟨rfl,fun _ _=>rfl⟩;obtain⟨oC,esC,epC,gC,dC,Wn⟩:=Y6;have c1:P2.objs.size≠X.env.locals:=fun z=>absurd (Nat.lt_of_lt_of_le I2.lt QW) (by rw[z];exact Nat.lt_irrefl _);have c2:upd H5 s2.heap.objs.size (.lst acc) P2.objs.size=none:=by rw[ak (Ne.symm Tf)];exact I6.free
   have c3:P2.objs.size∉X.fs:=I2.Ww QW
   have J1:Inv X ((P2.objs.size,oC)::pins) σ (upd H5 s2.heap.objs.size (.lst acc)) s6:=J0.Mv fun p hp=>by
    rcases List.mem_cons.mp hp with z|z
    ·subst z;exact⟨gC,c2,c1,c3,fun v z=>by rw[dC]at z;cases z⟩
    ·exact J0.pin p (List.mem_append_right _ z)
   have hg:=ny (X:=X) (i:=iy) (pos:=py) W7 hy (Or.inl V_) (.inr V_);refine J6 (hg _ s6 σ _ (.ref s2.heap.objs.size) (.ref s2.heap.objs.size) (fun σ' H'=>σ'=σ.set iy (some (.ref s2.heap.objs.size))∧H'=upd H5 s2.heap.objs.size (.lst acc)) J1 rfl ⟨rfl,rfl⟩) ?_;rintro _ s7 ⟨σ7,H7,I7,e7,e8⟩;subst e7 e8;refine⟨m6,⟨oC,esC,epC,(I7.pin (P2.objs.size,oC) (by simp)).1,dC,Wn⟩,fun h' sb=>?_⟩;have same:∀b,b≠P2.objs.size→h'.get? b=s7.heap.get? b:=fun b hb=>sb.2 b hb;have I8:Inv X pins (σ.set iy (some (.ref s2.heap.objs.size))) (upd H5 s2.heap.objs.size (.lst acc)) s7:=I7.Mv fun p hp=>I7.pin p (List.mem_append_right _ (List.mem_cons_of_mem _ hp));refine⟨_,_,I8.call' (s':={ s7 with heap:=h' }) (ch:=[P2.objs.size]) rfl ⟨fun b o q n hb hx=>?_,fun b o q n hb hx=>?_,fun b o q n hx=>n,fun b o q hx=>?_,fun b xs q=>q,fun b o u q=>q,fun b ps q=>⟨#[],by simpa using q⟩⟩ (fun b u e=>?_) I8.bare fun b hb=>?_,qn _ VJ⟩
   ·exact(same b (fun z=>hx (by rw[z];exact List.mem_singleton_self _))).trans q
   ·exact⟨o.slots,(same b (fun z=>hx (by rw[z];exact List.mem_singleton_self _))).trans q⟩
   ·exact⟨o,(same b (fun z=>hx (by rw[z];exact List.mem_singleton_self _))).trans q⟩
   ·refine(show bR X.prog X.w _ s7.heap b u from I8.hok b u e).stay (fun c v hc q=>(same c ?_).trans q) (fun _ q=>q) fun _ _ q=>q;rcases hc with z|z
    ·rw[z];intro z2;rw[z2,c2]at e;cases e
    ·intro z2;rw[z2,c2]at z;cases z
   ·rw[List.mem_singleton.mp hb];refine⟨.inr (Nat.le_trans I2.sz QW),c1,fun x c h z=>?_,fun p hp z=>?_⟩
    ·obtain⟨v,q⟩:=I2.cell x c h;exact absurd (Nat.lt_of_lt_of_le q.lt QW) (by rw[z];exact Nat.lt_irrefl _)
    ·have q:=(I2.pin p hp).1;exact absurd (Nat.lt_of_lt_of_le (Heap.lt_size q) QW) (by rw[z];exact Nat.lt_irrefl _)
  ·refine J6 (T.item Y rfl rfl rfl W5 i _ s5 _ H5 (fun _ _=>False) V4 (VR VP) Um go) ?_;rintro r s6 ⟨u,hr,h6⟩;subst hr;refine J6 h6 ?_;rintro _ s7 ⟨v7,H7,I7,r7,y7,Vl,Zq⟩;have Z2:=I7.pinned (VR Zq) (T.obj _ _ Vl);have hg:PG Y (.Name x px) (xw 0):=ny (X:=Y) (i:=0) S.nd (by show M[0]? =some x;rw[S.inN];rfl) (Or.inl (lookup_relabel_local S.var)) (.inr (lookup_relabel_local S.var));refine J6 (hg _ s7 _ H7 v7 u (fun σ8 H8=>σ8=some v7::gO g8 σ∧H8=H7) Z2 r7 ⟨rfl,rfl⟩) ?_;rintro _ s8 ⟨σ8,H8,I8,e8,Zx⟩;subst e8 Zx;refine J6 (ht _ _ _ _ _ _ s8 _ _ _ I8 (step v7 _ y7)) ?_;rintro b s9 ⟨H9,I9,q9⟩
   have tail:∀{σ':St}{H':Hp}{s':Shared},Inv Y ([(s2.heap.objs.size,{ cls:=.type "list",data:=.seq its nn })]++mt fp s7.heap) σ' H' s'→
     tn (i+1) s'.heap∧(∀b∈fp,H' b=none)∧s'.heap.get? s2.heap.objs.size=some { cls:=.type "list",data:=.seq its nn }∧H' s2.heap.objs.size=none:=fun{σ' H' s'} J=>by
    refine⟨T.keep _ _ _ Vl fun b hb o e=>(J.pin (b,o) (List.mem_append_right _ (List.mem_append_right _ (fy hb e)))).1,fun b hb=>?_,?_⟩
    ·obtain⟨o,e,d⟩:=T.obj _ _ Vl b hb;exact(J.pin (b,o) (List.mem_append_right _ (List.mem_append_right _ (fy hb e)))).2.1
    ·have p:=J.pin (s2.heap.objs.size,{ cls:=.type "list",data:=.seq its nn }) (by simp);exact⟨p.1,p.2.1⟩
   cases b with
   |false=>
    obtain⟨m',hm,w9⟩:=(show∃m',m'<n∧W (i+1) m' acc H9 from by simpa using q9)
    obtain⟨t1,t2,t3,t4⟩:=tail I9;refine⟨m',hm,i+1,acc,H9,its,?_,t1,t2,t4,⟨nn,t3⟩,Uq,WQ,w9⟩
    exact(I9.Mv (Ml:=[]) fun p hp=>absurd hp (by simp)).weak (by simp) fun j w z=>by
     cases j with
     |zero=>simp at z
     |succ j=>simpa using z
   |true=>
    have Yr:te (some v7::gO g8 σ) H9 fun y H3=>∃m',m'<n∧W (i+1) m' (acc++ [y]) H3:=by simpa using q9
    refine J6 (he _ _ _ _ _ _ s9 _ _ _ I9 Yr) ?_;rintro Yl Wm ⟨y,Xk,Xj,r10,m',hm,w10⟩;obtain⟨t1,t2,t3,t4⟩:=tail Xj;have lz:its.size=acc.length:=by rw[Uq.length];simp
    refine wpAny_list_append_plain ⟨nn,t3⟩ (fun h' TF Wk=>?_) (by omega)
    have Z4:Inv Y [] (some v7::gO g8 σ) Xk { Wm with heap:=h',toks:=Wm.toks }:=
     (Xj.Mv (Ml:=[]) fun p hp=>absurd hp (by simp)).turned (it:=s2.heap.objs.size) (fun b o hb e=>(Wk.2 b hb).trans e) t4 Tf (.inr (acg _)) T4 (fun p hp=>absurd (show p∈([]:List (Addr×Obj))from hp) (by simp))
    refine⟨m',hm,i+1,acc++ [y],Xk,its.push Yl,?_,T.keep _ _ _ t1 (fun b hb o e=>(Wk.2 b (fun z=>W_ (z▸hb))).trans e),t2,t4,TF,?_,?_,w10⟩
    ·exact Z4.weak (by simp) fun j w z=>by
      cases j with
      |zero=>simp at z
      |succ j=>simpa using z
    ·rw[Array.toList_push];exact Uq.append (.cons r10 .nil)
    ·rw[List.length_append,List.length_singleton];omega
 exact codeAny_compStart_list (loop _ rfl) (T.self X.A 0 _ _ _ (T.keep 0 _ _ Uo (fun b hb o e=>old b o e)) (loop _ rfl))
end
end L2
set_option autoImplicit false
namespace L2
open PySem
def DK(h h':Heap):Prop:=∀b o,h.get? b=some o→∃o',h'.get? b=some o'∧o'.dict=o.dict
theorem DK.refl(h:Heap):DK h h:=fun _ o e=>⟨o,e,rfl⟩
theorem DK.trans{h1 h2 h3:Heap}(x:DK h1 h2)(y:DK h2 h3):DK h1 h3:=fun b o e=>by obtain⟨o1,e1,d1⟩:=x b o e;obtain⟨o2,e2,d2⟩:=y b o1 e1;exact⟨o2,e2,d2.trans d1⟩
def Kd{α:Type}(t:Sem α):Prop:=∀(M:Model)(Γ:Ctx)(Q:α→Pos→Shared→Prop)(E:Value→Pos→Shared→Prop)(p:Pos)(s:Shared),Sem.wp M Γ t Q E p s→
 Sem.wp M Γ t (fun a p' s'=>Q a p' s'∧DK s.heap s'.heap) (fun e p' s'=>E e p' s'∧DK s.heap s'.heap) p s
section
variable{α β:Type}
theorem Kd.bind{m:Sem α}{f:α→Sem β}(hm:Kd m)(hf:∀a,Kd (f a)):Kd (m >>= f):=fun M Γ Q E p s h=>by rw[Sem.wp_bind']at h ⊢;refine Sem.wp_mono M Γ m (fun a p1 s1 z=>?_) (fun e p1 s1 z=>z) p s (hm M Γ _ _ p s h);exact Sem.wp_mono M Γ (f a) (fun b p2 s2 y=>⟨y.1,z.2.trans y.2⟩) (fun e p2 s2 y=>⟨y.1,z.2.trans y.2⟩) p1 s1 (hf a M Γ Q E p1 s1 z.1)
theorem Kd.pure(a:α):Kd (Pure.pure a:Sem α):=fun M Γ Q E p s h=>by rw[Sem.wp_pure']at h ⊢;exact⟨h,DK.refl _⟩
theorem Kd.Td(x:String):Kd (unsupported x:Sem α):=fun M Γ Q E p s h=>by rw[show(unsupported x:Sem α)=.unsupported x from rfl,Sem.wp_unsupported]at h;exact h.elim
theorem Kd.load(a:Addr):Kd (PySem.load a):=fun M Γ Q E p s h=>by rw[show PySem.load a=.load a none .pure from rfl,Sem.wp_load]at h ⊢;obtain⟨o,h1,h2⟩:=h;rw[Sem.wp_pure]at h2;exact⟨o,h1,by rw[Sem.wp_pure];exact⟨h2,DK.refl _⟩⟩
theorem Kd.stack:Kd PySem.stack:=fun M Γ Q E p s h=>by rw[show PySem.stack=.stack .pure from rfl,Sem.wp_stack,Sem.wp_pure]at h ⊢;exact⟨h,DK.refl _⟩
theorem Kd.alloc(o:Obj):Kd (PySem.alloc o):=fun M Γ Q E p s h=>by rw[show PySem.alloc o=.alloc o .pure from rfl,Sem.wp_alloc,Sem.wp_pure]at h ⊢;exact⟨h,fun b o' e=>⟨o',Heap.get?_push_of_some _ e,rfl⟩⟩
theorem Kd.update{a:Addr}{f:Obj→Obj}(hf:∀o,o.isFreed=false→(f o).isFreed=false∧(f o).dict=o.dict):Kd (PySem.update a f):=fun M Γ Q E p s h=>by
 rw[show PySem.update a f=.update a none f .pure from rfl,Sem.wp_update]at h ⊢;obtain⟨h1,h2⟩:=h;rw[Sem.wp_pure]at h2;refine⟨h1,?_⟩;rw[Sem.wp_pure];refine⟨h2,fun b o e=>?_⟩
 by_cases hb:a=b
 ·subst hb;obtain⟨z1,z2⟩:=hf o (Heap.get?_some_iff.mp e).2;exact⟨f o,Heap.get?_update_self f e z1,z2⟩
 ·exact⟨o,(Heap.get?_update_other _ _ hb).trans e,rfl⟩
theorem Kd.ite{c:Prop}[Decidable c]{t u:Sem α}(ht:Kd t)(hu:Kd u):Kd (if c then t else u):=by
 split
 ·exact ht
 ·exact hu
theorem uv(v:Value):Kd (fieldsOf v):=by
 unfold fieldsOf
 split
 ·refine(Kd.load _).bind fun o=>?_
  split
  ·exact Kd.pure _
  ·exact Kd.Td _
 ·exact Kd.Td _
theorem lM(v:Value)(i:Nat):Kd (field v i):=by
 refine(uv v).bind fun vs=>?_
 split
 ·exact Kd.pure _
 ·exact Kd.Td _
theorem mV(g:Array Value→Array Value)(o:Obj)(h:o.isFreed=false):(Obj.mapFields g o).isFreed=false∧(Obj.mapFields g o).dict=o.dict:=by
 unfold Obj.mapFields
 split
 ·exact⟨rfl,rfl⟩
 ·exact⟨h,rfl⟩
theorem jy(v:Value)(i:Nat)(x:Value):Kd (setField v i x):=by
 unfold setField
 split
 ·unfold updateField;refine(Kd.load _).bind fun o=>?_
  split
  ·exact Kd.ite (Kd.update fun o h=>mV _ o h) (Kd.Td _)
  ·exact Kd.Td _
 ·exact Kd.Td _
theorem jc(e:Value)(f:Option Addr):Kd (setFlight e f):=by refine(lM e 1).bind fun tb=>?_;exact Kd.ite (jy _ _ _) (Kd.pure _)
theorem rO(ty:String)(vs:List Value):Kd (newFields ty vs):=by
 unfold newFields newObj
 have as:Kd (newObjAsIs (.type ty) (.fields vs.toArray) none):=by unfold newObjAsIs;exact(Kd.alloc _).bind fun _=>Kd.pure _
 dsimp only
 split
 ·exact(Kd.Td _).bind fun _=>as
 ·exact as
theorem jz:∀l:List Env,Kd (readyFrames l)
 |[]=>Kd.pure _
 |env::outer=>by
  unfold readyFrames
  split
  ·refine(Kd.load _).bind fun o=>Kd.ite (Kd.pure _) ?_;refine Kd.bind ?_ fun i=>Kd.bind ?_ fun b=>Kd.bind (Kd.update fun o h=>⟨?_,rfl⟩) fun _=>jz outer
   ·unfold behindIsImport;exact Kd.ite (Kd.pure _) (Kd.ite (Kd.pure _) ((lM _ _).bind fun _=>Kd.pure _))
   ·unfold keptBack
    split
    ·refine Kd.ite (Kd.pure _) ?_;exact Kd.bind (Kd.stack.bind fun _=>Kd.pure _) fun _=>Kd.pure _
    ·exact Kd.pure _
   ·obtain⟨c,d,dt,s0⟩:=o
    cases dt<;>first|rfl|(simp[Obj.isFreed]at h)
  ·exact Kd.Td _
theorem vS(env:Env):Kd (frameOf env):=by
 unfold frameOf;refine Kd.bind (Kd.stack.bind fun _=>Kd.pure _) fun l=>Kd.bind ?_ fun o=>?_
 ·unfold frameObject
  split
  ·exact Kd.pure _
  ·exact(jz _).bind fun _=>Kd.pure _
 ·split
  ·exact Kd.pure _
  ·exact Kd.Td _
theorem mW(f:Addr)(b:Bool):Kd (entryPlaceOf f b):=by
 unfold entryPlaceOf;refine Kd.stack.bind fun _=>?_
 split
 ·exact Kd.pure _
 ·exact Kd.pure _
theorem lL(e:Value)(env:Env):Kd (noteFrame e env):=by
 unfold noteFrame
 split
 ·have go:∀hd:Value,∀f:Addr,Kd (do setField e 1 (← EntryCells.newEntry hd (← frameOf env) .none (rawInt f) .none (← entryPlaceOf f (hd != .none)))):=fun hd f=>(vS env).bind fun _=>(mW _ _).bind fun _=>(rO _ _).bind fun _=>jy _ _ _
  refine(lM e 1).bind fun hd=>?_;refine Kd.ite ?_ (go _ _);exact(lM _ _).bind fun x=>Kd.ite (Kd.pure _) ((jy _ _ _).bind fun _=>go _ _)
 ·exact Kd.Td _
theorem kQ(env:Env)(e:Value):Kd (leaving env e):=(lL e env).bind fun _=>jc e none
end
open PySem.Spec PyProof.Rows
theorem bR.there{P:Program}{w:World}{H:Hp}{h:Heap}{a:Addr}{o:HO}(x:bR P w H h a o):∃ob,h.get? a=some ob:=by
 cases o with
 |lst xs=>obtain⟨_,_,_,_,e⟩:=x;exact⟨_,e⟩
 |tup xs=>obtain⟨_,_,_,ob,e,_⟩:=x;exact⟨_,e⟩
 |dK kvs=>obtain⟨_,_,_,_,o,_,_,e,_⟩:=x;exact⟨_,e⟩
 |dT kvs=>obtain⟨_,_,_,_,o,_,_,e,_⟩:=x;exact⟨_,e⟩
 |set S n=>obtain⟨o,_,_,_,e,_⟩:=x;exact⟨_,e⟩
 |ins C dx fs=>obtain⟨_,_,_,e,_⟩:=x;exact⟨_,e⟩
 |own y=>exact x
 |xd fs=>obtain⟨_,⟨_,_,_,e,_⟩,_⟩:=x;exact⟨_,e⟩
 |rng lo hi=>obtain⟨_,_,_,e⟩:=x;exact⟨_,e⟩
 |QX ob u=>obtain⟨e,_⟩:=x;exact⟨_,e⟩
 |U4 ps=>exact⟨_,show h.get? a=some _ from x⟩
 |met f y=>exact⟨_,show h.get? a=some _ from x⟩
 |ext φ=>obtain⟨_,z,_⟩:=x;exact z
def Cov(l:List Env)(h:Heap)(H':Hp)(B:Heap):Prop:=(∀b o,h.get? b=some o→b∉frs l→∃o',B.get? b=some o')∧∀b u,H' b=some u→∃o',B.get? b=some o'
def mZ(h:Heap)(a:Addr)(dx:Option Addr):Prop:=∃o,h.get? a=some o∧o.dict=dx
theorem mZ.on{h h':Heap}{a:Addr}{dx:Option Addr}(x:mZ h a dx)(k:DK h h'):mZ h' a dx:=by obtain⟨o,e,d⟩:=x;obtain⟨o',e',d'⟩:=k a o e;exact⟨o',e',d'.trans d⟩
theorem rP{α:Type}{M:Model}{A:Around}{t:Sem α}{Q Q':α→Shared→Prop}{E E':Value→Shared→Prop}{s:Shared}(k:Kd t)(h:wpAny M A t Q E s)(hq:∀a s',Q a s'→DK s.heap s'.heap→Q' a s')(he:∀e s',E e s'→E' e s'):wpAny M A t Q' E' s:=
 fun Γ p hΓ=>Sem.wp_mono M Γ t (fun a _ s' z=>hq a s' z.1 z.2) (fun e _ s' z=>he e s' z.1) p s (k M Γ _ _ p s (h Γ p hΓ))
theorem Bo{α:Type}{M:Model}{A:Around}{t:Sem α}{Q:α→Shared→Prop}{E:Value→Shared→Prop}{s:Shared}{a:Addr}{dx:Option Addr}(k:Kd t)(d:mZ s.heap a dx)(h:wpAny M A t (fun x s'=>mZ s'.heap a dx→Q x s') E s):wpAny M A t Q E s:=
 rP k h (fun _ _ q dk=>q (d.on dk)) fun _ _ z=>z
def Qc(P:Program)(w:World):S_:=fun outer H s E e s'=>∃(a:Addr)(cls a0:Value)(B:Heap)(H':Hp)(dx:Option Addr),e=.ref a∧s'.os=s.os∧AllBare s'.gens∧Un (frs outer) [] H H' s.heap s'.heap∧Ob P w H' s'.heap∧Heap.FlyingW B outer a cls a0 s'.heap∧Cov outer s.heap H' B∧mZ s'.heap a dx∧E cls dx H'
theorem Un.then{fs:List Addr}{H0 H:Hp}{h0 h1 h2:Heap}{L:Addr}(u:Un fs [] H0 H h0 h1)(hL:∀b o,h0.get? b=some o→b≠L)
  (k:∀b o,h1.get? b=some o→b≠L→b∉fs→h2.get? b=some o) (ks:∀b o,h1.get? b=some o→b∈fs→∃sl,h2.get? b=some { o with slots:=sl }):Un fs [] H0 H h0 h2 where
 keep:=fun b o e n hb hx=>k b o (u.keep b o e n hb hx) (hL b o e) hb
 slot:=fun b o e n hb hx=>by obtain⟨sl,e1⟩:=u.slot b o e n hb hx;obtain⟨SQ,e2⟩:=ks b _ e1 hb;exact⟨SQ,e2⟩
 free:=u.free
 there:=fun b o e hx=>by
  obtain⟨o',e1⟩:=u.there b o e hx
  by_cases hb:b∈fs
  ·obtain⟨sl,e2⟩:=ks b o' e1 hb;exact⟨_,e2⟩
  ·exact⟨o',k b o' e1 (hL b o e) hb⟩
 tups:=u.tups
 MP:=u.MP
 Ph:=u.Ph
section
variable{X:Cx}{pins:List (Addr×Obj)}{σ:St}{H:Hp}{s:Shared}{E:XK}
theorem je(stk:X.stack=X.env::X.outer)(hf:X.env.frame=some X.env.locals){b:Addr}:b∈frs X.stack↔b=X.env.locals∨b∈X.fs:=by rw[stk];unfold frs;rw[List.filterMap_cons,hf];exact List.mem_cons
theorem gK{base h:Heap}{l:List Env}(f:h.FunFrames base l){b:Addr}(hb:b∈frs l):∃o,h.get? b=some o∧∀vs,o.data≠.fields vs:=(f.mem hb).2
theorem vR{M:Model}{h':Heap}{e:Addr}{cls:Value}{args:List Value}{Ee:Value→Shared→Prop}(I:Inv X pins σ H s)(stk:X.stack=X.env::X.outer)(hf:X.env.frame=some X.env.locals)(hex:X.ex= [])
  (m:Heap.MadeExcOf s.heap h' e cls args) (hE:E cls none H):
  wpAny M X.A (leaving X.env (.ref e)) (fun _ Qt=>Qc X.prog X.w X.outer X.H₀ X.s₀ E (.ref e) Qt) Ee { s with heap:=h' }:=by
 have Vz:X.A.frames=some (X.env::X.outer):=by rw[I.ok.frames,stk]
 have Vt:∀b o,s.heap.get? b=some o→b∉frs X.stack→(W.hideAll s.heap (frs X.stack)).get? b=some o:=fun b o q n=>W.hideAll_get _ q n;refine rP (Q:=fun _ Qt=>mZ Qt.heap e none→Qc X.prog X.w X.outer X.H₀ X.s₀ E (.ref e) Qt) (kQ _ _) (wpAny_leaves_madeW (base:=W.hideAll s.heap (frs X.stack)) (h:=s.heap) (s:={ s with heap:=h' }) Vz hf (fun b o q=>W.of_hideAll _ q) ?_ m fun h2 t fl _ _ up W9=>?_) (fun _ Qt q dk=>q (mZ.on ?_ dk)) fun _ _ z=>z
 ·have:=W.funFrames_hide (as:=frs X.stack) I.stack (fun env he a ha=>List.mem_filterMap.mpr ⟨env,he,ha⟩);rw[stk]at this ⊢;exact this
 rotate_left
 ·obtain⟨t,he,_⟩:=m.there;exact⟨_,he,rfl⟩
 ·have k2:∀b o,s.heap.get? b=some o→b∉frs X.stack→h2.get? b=some o:=fun b o q n=>fl.1 b o (Vt b o q n);have T_:∀b o,X.s₀.heap.get? b=some o→b≠X.env.locals:=fun b o q=>Nat.ne_of_lt (Nat.lt_of_lt_of_le (Heap.lt_size q) I.ok.above);have base:=I.base;rw[hex]at base;refine⟨e,cls,_,_,H,none,rfl,I.os,I.bare,base.then T_ (fun b o q n1 n2=>k2 b o q fun z=>?_) (fun b o q hb=>?_),fun b u q=>?_,fl,⟨fun b o q n=>?_,fun b u q=>?_⟩,W9,hE⟩
  ·rcases(je stk hf).mp z with z|z
   ·exact n1 z
   ·exact n2 z
  ·obtain⟨o2,q2,d2⟩:=gK I.stack ((je stk hf).mpr (.inr hb));rw[q]at q2
   cases q2
   exact up b o (m.keeps b o q) d2
  ·refine(I.hok b u q).stay (fun c v hc r=>k2 c v r fun z=>?_) (fun _ r=>r) fun _ _ r=>r;have:=I.N7 c z;rcases hc with rfl|hc
   ·rw[this]at q;cases q
   ·rw[this]at hc;cases hc
  ·obtain⟨o',q'⟩:=I.base.there b o q (by rw[hex];simp);refine⟨o',Vt b o' q' fun z=>?_⟩;rcases(je stk hf).mp z with z|z
   ·exact T_ b o q z
   ·exact n z
  ·obtain⟨ob,q'⟩:=(I.hok b u q).there;refine⟨ob,Vt b ob q' fun z=>?_⟩;rw[I.N7 b z]at q;cases q
noncomputable def del(H:Hp)(e:Addr):Hp:=fun b=>if b=e then none else H b
theorem jh{H:Hp}{e b:Addr}(n:b≠e):del H e b=H b:=if_neg n
theorem oS{H:Hp}{e:Addr}:del H e e=none:=if_pos rfl
theorem yJ{M:Model}{e:Addr}{o:Obj}{vs:Array Value}{a0:Value}{φ:Heap→Prop}{Ee:Value→Shared→Prop}(I:Inv X pins σ H s)(stk:X.stack=X.env::X.outer)(hf:X.env.frame=some X.env.locals)(hex:X.ex= [])
  (ho:s.heap.get? e=some o) (hd:o.data=.fields vs) (h0:vs[0]? =some a0) (h1:vs[1]? =some .none) (hH:H e=some (.ext φ)) (new:X.s₀.heap.get? e=none) (hE:E o.cls o.dict (del H e)):
  wpAny M X.A (leaving X.env (.ref e)) (fun _ Qt=>Qc X.prog X.w X.outer X.H₀ X.s₀ E (.ref e) Qt) Ee s:=by
 have Vz:X.A.frames=some (X.env::X.outer):=by rw[I.ok.frames,stk]
 have ne:e∉frs X.stack:=fun z=>by rw[I.N7 e z]at hH;cases hH
 have Vt:∀b ob,s.heap.get? b=some ob→b∉frs X.stack→b≠e→(W.hideAll s.heap (e::frs X.stack)).get? b=some ob:=fun b ob q n n2=>W.hideAll_get _ q (by simp[n,n2])
 have fr2:s.heap.FunFrames (W.hideAll s.heap (e::frs X.stack)) (X.env::X.outer):=by have:=W.funFrames_hide (as:=e::frs X.stack) I.stack (fun env he a ha=>List.mem_cons_of_mem _ (List.mem_filterMap.mpr ⟨env,he,ha⟩));rw[stk]at this ⊢;exact this
 have eB:(W.hideAll s.heap (e::frs X.stack)).get? e=none:=W.hideAll_none _ (by simp);refine rP (Q:=fun _ Qt=>mZ Qt.heap e o.dict→Qc X.prog X.w X.outer X.H₀ X.s₀ E (.ref e) Qt) (kQ _ _) (wpAny_leaving_firstW (base:=W.hideAll s.heap (e::frs X.stack)) Vz fr2 hf ho (fun b ob q=>W.of_hideAll _ q) eB hd h1 h0 fun h2 L W9=>?_) (fun _ Qt q dk=>q (mZ.on ⟨o,ho,rfl⟩ dk)) fun _ _ z=>z;obtain⟨k1,⟨_,_,kf⟩,kt,up⟩:=L;have k2:∀b ob,s.heap.get? b=some ob→b∉frs X.stack→b≠e→h2.get? b=some ob:=fun b ob q n n2=>k1 b ob (Vt b ob q n n2);have T_:∀b ob,X.s₀.heap.get? b=some ob→b≠X.env.locals:=fun b ob q=>Nat.ne_of_lt (Nat.lt_of_lt_of_le (Heap.lt_size q) I.ok.above);have Xw:∀b ob,X.s₀.heap.get? b=some ob→b≠e:=fun b ob q z=>by subst z;rw[new]at q;cases q
 have base:=I.base;rw[hex]at base;refine⟨e,o.cls,a0,_,del H e,o.dict,rfl,I.os,I.bare,⟨fun b ob q n hb hx=>?_,fun b ob q n hb hx=>?_,fun b ob q n hx=>?_,fun b ob q hx=>?_,fun b xs q=>?_,fun b ob u q=>?_,fun b ps q=>?_⟩,fun b u q=>?_,⟨k1,eB,kf,kt⟩,⟨fun b ob q n=>?_,fun b u q=>?_⟩,W9,hE⟩
 ·refine k2 b ob (base.keep b ob q n hb hx) (fun z=>?_) (Xw b ob q);rcases(je stk hf).mp z with z|z
  ·exact T_ b ob q z
  ·exact hb z
 ·obtain⟨sl,e1⟩:=base.slot b ob q n hb hx;obtain⟨o2,q2,d2⟩:=gK I.stack ((je stk hf).mpr (.inr hb));rw[e1]at q2
  cases q2
  obtain⟨SQ,e2⟩:=up b _ e1 d2;exact⟨SQ,e2⟩
 ·rw[jh (Xw b ob q)];exact base.free b ob q n hx
 ·obtain⟨o',e1⟩:=base.there b ob q hx
  by_cases hb:b∈frs X.stack
  ·obtain⟨o2,q2,d2⟩:=gK I.stack hb;obtain⟨SQ,e2⟩:=up b _ q2 d2;exact⟨_,e2⟩
  ·exact⟨o',k2 b o' e1 hb (Xw b ob q)⟩
 ·have z:=base.tups b xs q;rw[jh (fun y=>by subst y;rw[hH]at z;cases z)];exact z
 ·have z:=base.MP b ob u q;rw[jh (fun y=>by subst y;rw[hH]at z;cases z)];exact z
 ·obtain⟨more,z⟩:=base.Ph b ps q;exact⟨more,by rw[jh (fun y=>by subst y;rw[hH]at z;cases z)];exact z⟩
 ·have nb:b≠e:=fun z=>by subst z;rw[oS]at q;cases q
  rw[jh nb]at q;refine(I.hok b u q).stay (fun c v hc r=>k2 c v r (fun z=>?_) fun z=>?_) (fun c r=>?_) fun c xs r=>?_
  ·have:=I.N7 c z;rcases hc with rfl|hc
   ·rw[this]at q;cases q
   ·rw[this]at hc;cases hc
  ·subst z;rcases hc with rfl|hc
   ·exact nb rfl
   ·rw[hH]at hc;cases hc
  ·rw[jh (fun y=>by subst y;rw[hH]at r;cases r)];exact r
  ·rw[jh (fun y=>by subst y;rw[hH]at r;cases r)];exact r
 ·obtain⟨o',q'⟩:=I.base.there b ob q (by rw[hex];simp);refine⟨o',Vt b o' q' (fun z=>?_) (Xw b ob q)⟩;rcases(je stk hf).mp z with z|z
  ·exact T_ b ob q z
  ·exact n z
 ·have nb:b≠e:=fun z=>by subst z;rw[oS]at q;cases q
  rw[jh nb]at q;obtain⟨ob,q'⟩:=(I.hok b u q).there;refine⟨ob,Vt b ob q' (fun z=>?_) nb⟩;rw[I.N7 b z]at q;cases q
theorem Bf{M:Model}{s':Shared}{e:Value}{Ec:XK}{Ee:Value→Shared→Prop}(I:Inv X pins σ H s)(stk:X.stack=X.env::X.outer)(hf:X.env.frame=some X.env.locals)(hex:X.ex= [])
  (c:Qc X.prog X.w X.stack H s Ec e s') (hE:∀cls dx H',Ec cls dx H'→E cls dx H'):
  wpAny M X.A (leaving X.env e) (fun _ Qt=>Qc X.prog X.w X.outer X.H₀ X.s₀ E e Qt) Ee s':=by
 obtain⟨a,cls,a0,B,H',dx,rfl,os,bare,un,hok,fl,⟨c1,c2⟩,da,q⟩:=c;have Vz:X.A.frames=some (X.env::X.outer):=by rw[I.ok.frames,stk]
 have Zu:=fl;rw[stk]at fl;refine rP (Q:=fun _ Qt=>mZ Qt.heap a dx→Qc X.prog X.w X.outer X.H₀ X.s₀ E (.ref a) Qt) (kQ _ _) (wpAny_leaves_onW Vz hf fl fun h2 X3 up W9=>?_) (fun _ Qt q dk=>q (da.on dk)) fun _ _ z=>z;have I2:Inv X pins σ H' s':=I.call' (ch:=[]) os un hok bare (fun b z=>absurd z (by simp));have T_:∀b o,X.s₀.heap.get? b=some o→b≠X.env.locals:=fun b o q=>Nat.ne_of_lt (Nat.lt_of_lt_of_le (Heap.lt_size q) I.ok.above);have frB:∀b∈frs X.stack,B.get? b=none:=fun b hb=>(Zu.2.2.1.mem hb).1;have base:=I2.base;rw[hex]at base
 have old:∀b o,X.s₀.heap.get? b=some o→b∉X.fs→∃o',B.get? b=some o':=fun b o e n=>by
  obtain⟨o',e'⟩:=I.base.there b o e (by rw[hex];simp);refine c1 b o' e' fun z=>?_;rcases(je stk hf).mp z with z|z
  ·exact T_ b o e z
  ·exact n z
 refine⟨a,cls,a0,B,H',dx,rfl,?_,bare,⟨fun b o e n hb hx=>?_,fun b o e n hb hx=>?_,base.free,fun b o e hx=>?_,base.tups,base.MP,base.Ph⟩,fun b u e=>?_,X3,⟨old,c2⟩,W9,hE _ _ _ q⟩
 ·exact os.trans I.os
 ·have e1:=base.keep b o e n hb hx;obtain⟨o',e2⟩:=old b o e hb;have:=Zu.1 b o' e2;rw[e1]at this
  cases this
  exact X3.1 b _ e2
 ·obtain⟨sl,e1⟩:=base.slot b o e n hb hx;obtain⟨o2,q2,d2⟩:=gK I2.stack ((je stk hf).mpr (.inr hb));rw[e1]at q2
  cases q2
  obtain⟨SQ,e2⟩:=up b _ e1 d2;exact⟨SQ,e2⟩
 ·by_cases hb:b∈X.fs
  ·obtain⟨o',e1⟩:=base.there b o e hx;obtain⟨o2,q2,d2⟩:=gK I2.stack ((je stk hf).mpr (.inr hb));obtain⟨SQ,e2⟩:=up b _ q2 d2;exact⟨_,e2⟩
  ·obtain⟨o',e2⟩:=old b o e hb;exact⟨o',X3.1 b o' e2⟩
 ·have stay:∀c v,(c=b∨H' c=some (.own b))→s'.heap.get? c=some v→h2.get? c=some v:=fun c v hc r=>by
   have:∃u',H' c=some u':=by
    rcases hc with rfl|hc
    ·exact⟨u,e⟩
    ·exact⟨_,hc⟩
   obtain⟨u',hu⟩:=this;obtain⟨o',e2⟩:=c2 c u' hu;have:=Zu.1 c o' e2;rw[r]at this
   cases this
   exact X3.1 c _ e2
  exact(hok b u e).stay stay (fun _ r=>r) fun _ _ r=>r
end
theorem BD{K:W.Frag}{h:Heap}{C:Addr}{QV:List Value}{Mx:String}(NQ:K.In h)(ok:W.excIn K C QV Mx=true):
  ∃bm N nm q bs hdct sn sub ab col dd k0 k1 k2 k3 k5 mN,h.get? C=some (excClassObj nm q C N bs bm hdct sn sub ab col dd k0 k1 k2 k3 k5 Mx)∧h.Ns N mN∧mN "__init__"=none∧OwnTail h QV bm:=by
 unfold W.excIn at ok
 split at ok
 case h_2=>exact absurd ok (by decide)
 case h_1 dict V3 Yn lk=>
  split at ok
  case h_2=>exact absurd ok (by decide)
  case h_1 C2 tl f0 f1 f2 f3 nid f5 em es=>
   rw[acf,acf,acf,acf,acf]at ok;obtain⟨⟨⟨⟨⟨z1,z2⟩,z3⟩,z4⟩,z5⟩,z6⟩:=ok;rw[Bool.not_eq_true']at z3;have V2:Yn= #[f0,f1,f2,f3,some (.builtin nid),f5]:=Array.toList_inj.mp es
   cases beq_iff_eq.mp z1
   cases beq_iff_eq.mp z2
   rcases V3 with⟨c1,c2,c3,c4,c5,c6,c7,c8,c9,ZK,ZJ⟩
   change c3=_ at em;change ZJ=false at z3;subst em z3 V2;exact⟨tl,c4,c1,c5,c2,c6,c7,c8,c9,ZK,dict,f0,f1,f2,f3,f5,_,NQ _ _ lk,.of_isNs (W.isNs_of_in NQ z5),W.nsMap_none_of_in NQ z5 (beq_iff_eq.mp z6),W.tail_of_in NQ z4⟩
def Lv(X:Cx)(E:XK):Prop:=X.stack=X.env::X.outer∧X.env.frame=some X.env.locals∧X.ex= []∧
 ∀e s',wpAny (model X.prog X.w) X.A (leaving X.env e) (fun _ Qt=>Qc X.prog X.w X.outer X.H₀ X.s₀ E e Qt) (fun e' Qt=>Qc X.prog X.w X.outer X.H₀ X.s₀ E e' Qt) s'→X.xe e s'
theorem jR{P:Program}{w:World}{K:W.Frag}{mg:Str→Option Value}{base:Heap}{N:List Str}{C_:Str}{scope:Scope}{f:Addr}{cd:Value}{A:Around}{outer:List Env}{s:Shared}{H:Hp}{E:XK}:
  Lv (jH (Qc P w) P w K mg base N C_ scope f cd A outer s H E) E:=⟨rfl,rfl,rfl,fun _ _ h=>h⟩
theorem Lv.passes{X:Cx}{E Ec:XK}(l:Lv X E)(h:∀cls dx H',Ec cls dx H'→E cls dx H'):fE (Qc X.prog X.w) X Ec:=fun pins σ H s e s' I c=>l.2.2.2 e s' (Bf I l.1 l.2.1 l.2.2.1 c h)
section
variable{X:Cx}{E:XK}{x:Str}{C:Addr}{np M9 pos:Pos}{e0:Expr}{es:List Expr}{ta:TA}{QV Wc:List Value}{B Bn Mx nid Qf inN:String}
noncomputable def Fh(C:Addr)(E:XK)(ta:TA):TS:=fun _ σ H=>ta σ H fun vs H1=>vs.length≤sizeLine∧E (.ref C) none H1
theorem Ag(Fn:ExcBaseFacts Bn Mx inN Wc)(U_:QV.contains (.type Bn)=true)(FB:ExcBaseFacts B nid Qf QV)(ok:W.excIn X.K C QV Mx=true)(hg:Gl X x)(hm:X.mg x=some (.ref C))(hc:X.calm=true)(l:Lv X E)
  (ha:PA X (e0::es) ta) (O1:nD0 x:=by decide) (he:starEach (e0::es) X.env=(false,eval e0 X.env)::starEach es X.env:=by rfl) (Ng:(backTo M9 (starEach es X.env)).any (·.1)=false:=by rfl):
  PS X (.Raise (some (.Call (.Name x np) (e0::es) [] M9)) none pos) (Fh C E ta):=by
 intro pins s σ H D I h;obtain⟨bm,N,nm,q,bs,hdct,sn,sub,ab,col,dd,k0,k1,k2,k3,k5,mN,hC,hN,hni,T⟩:=BD I.mod.NQ ok;have step:=ha M9 pins s σ H _ I h
 refine wpAny_Raise_call_subU (C:=C) (nm:=nm) (q:=q) (N:=N) (bs:=bs) (bm:=bm) (hdct:=hdct) (sn:=sn) (sub:=sub) (ab:=ab) (col:=col) (dd:=dd) (k0:=k0) (k1:=k1) (k2:=k2) (k3:=k3) (k5:=k5)
  Fn U_ FB (mN:=mN) (T.hasType FB.hasBase) (I.ok.hd hc) ?_ hni (nA I hg hm ⟨rfl,?_⟩ O1)
 ·rw[he];show(false||(backTo M9 (starEach es X.env)).any (·.1))=false;rw[Ng];rfl
 ·rw[he]at step ⊢;refine Calls.evalArgs_plain (J6 step ?_);rintro us s2 ⟨vs,H2,I2,r2,len,q2⟩;refine⟨rfl,?_,I2.bk _ _ hC,hN.keeps I2.bk,T.keeps I2.bk,fun h' e made=>l.2.2.2 _ _ (vR I2 l.1 l.2.1 l.2.2.1 made q2)⟩;show us.length≤sizeLine;rw[← r2.length];exact len
end
noncomputable def kY(a:Addr)(cls:Value)(dx:Option Addr):HO:=.ext fun h=>∃o vs,h.get? a=some o∧o.cls=cls∧o.data=.fields vs∧o.dict=dx
section
variable{X:Cx}{pins:List (Addr×Obj)}{σ:St}{H H':Hp}{s s':Shared}{a:Addr}{cls a0:Value}{B h2:Heap}{E:XK}{dx:Option Addr}
theorem DL(I:Inv X pins σ H s)(os:s'.os=s.os)(bare:AllBare s'.gens)(un:Un (frs X.stack) [] H H' s.heap s'.heap)(hok:Ob X.prog X.w H' s'.heap)(fl:Heap.FlyingW B X.stack a cls a0 s'.heap)(cov:Cov X.stack s.heap H' B)
  (st:B.StaysIn h2) (up:s'.heap.UpToSlots h2) (ex:∃o vs,h2.get? a=some o∧o.cls=cls∧o.data=.fields vs∧o.dict=dx):Inv X pins σ (upd H' a (kY a cls dx)) { s' with heap:=h2 }:=by
 obtain⟨c1,c2⟩:=cov
 have na:H' a=none:=by
  cases q:H' a with
  |none=>rfl
  |some u=>obtain⟨o',z⟩:=c2 a u q;rw[fl.2.1]at z;cases z
 have Zo:∀b∈frs X.stack,∃o,s'.heap.get? b=some o∧∀vs,o.data≠.fields vs:=fun b hb=>(fl.2.2.1.mem hb).2
 have neA:∀b o,s.heap.get? b=some o→b≠a:=fun b o e z=>by
  subst z
  by_cases hb:b∈frs X.stack
  ·obtain⟨o1,q1,d1⟩:=Zo b hb;obtain⟨oe,vs,q2,_,d2,_⟩:=fl.first;rw[q1]at q2
   cases q2
   exact d1 vs d2
  ·obtain⟨o',z⟩:=c1 b o e hb;rw[fl.2.1]at z;cases z
 have eqB:∀b o o',s'.heap.get? b=some o→B.get? b=some o'→h2.get? b=some o:=fun b o o' e z=>by
  have:=fl.1 b o' z;rw[e]at this
  cases this
  exact st b _ z
 have un2:Un (frs X.stack) [] H (upd H' a (kY a cls dx)) s.heap h2:=by
  refine⟨fun b o e n hb hx=>?_,fun b o e n hb hx=>?_,fun b o e n hx=>?_,fun b o e hx=>?_,fun b xs e=>?_,fun b o u e=>?_,fun b ps e=>?_⟩
  ·obtain⟨o',z⟩:=c1 b o e hb;exact eqB b o o' (un.keep b o e n hb hx) z
  ·obtain⟨sl,e1⟩:=un.slot b o e n hb hx;obtain⟨o1,q1,d1⟩:=Zo b hb;rw[e1]at q1
   cases q1
   obtain⟨SQ,e2⟩:=up b _ e1 d1;exact⟨SQ,e2⟩
  ·rw[ak (neA b o e)];exact un.free b o e n hx
  ·by_cases hb:b∈frs X.stack
   ·obtain⟨o1,q1,d1⟩:=Zo b hb;obtain⟨SQ,e2⟩:=up b _ q1 d1;exact⟨_,e2⟩
   ·obtain⟨o',z⟩:=c1 b o e hb;exact⟨o',st b o' z⟩
  ·have:=un.tups b xs e;rw[ak (aD this na)];exact this
  ·have:=un.MP b o u e;rw[ak (aD this na)];exact this
  ·obtain⟨more,z⟩:=un.Ph b ps e;exact⟨more,by rw[ak (aD z na)];exact z⟩
 have YX:Ob X.prog X.w (upd H' a (kY a cls dx)) h2:=fun b u e=>by
  by_cases hb:b=a
  ·subst hb;rw[aJ]at e
   cases e
   obtain⟨o,vs,q1,q2⟩:=ex;exact⟨⟨o,vs,q1,q2⟩,⟨o,q1⟩,(by rintro h1 h3 ⟨o,vs,r1,r2⟩ k;exact ⟨o,vs,k o r1,r2⟩)⟩
  ·rw[ak hb]at e;refine(hok b u e).stay (fun c v hc r=>?_) (fun c r=>?_) fun c xs r=>?_
   ·have:∃u',H' c=some u':=by
     rcases hc with rfl|hc
     ·exact⟨u,e⟩
     ·exact⟨_,hc⟩
    obtain⟨u',hu⟩:=this;obtain⟨o',z⟩:=c2 c u' hu;exact eqB c v o' r z
   ·rw[ak (aD r na)];exact r
   ·rw[ak (aD r na)];exact r
 exact I.call' (s':={ s' with heap:=h2 }) (ch:=[]) os un2 YX bare (fun b z=>absurd z (by simp))
theorem Inv.lost{m':Str→Option Value}{t':Nat}(I:Inv X pins σ H s)(ns:h2.Ns X.env.locals m')(sb:Heap.SameBut X.env.locals s.heap h2):Inv X pins (List.replicate X.N.length none) H { s with heap:=h2,toks:=t' }:=by
 obtain⟨m,⟨oL,esL,epL,hoL,rL⟩,_⟩:=id I.loc;have Yx:∀b o,X.s₀.heap.get? b=some o→b≠X.env.locals:=fun b o q=>Nat.ne_of_lt (Nat.lt_of_lt_of_le (Heap.lt_size q) I.ok.above);refine⟨I.ok,I.os,I.bare,⟨fun b o e n hb hx=>?_,fun b o e n hb hx=>?_,I.base.free,fun b o e hx=>?_,I.base.tups,I.base.MP,I.base.Ph⟩,⟨m',ns,fun i x v _ e _=>?_⟩,fun x c e=>?_,I.free,I.Nh,fun p hp=>?_,fun b u e=>?_,by simp⟩
 ·exact(sb.2 b (Yx b o e)).trans (I.base.keep b o e n hb hx)
 ·obtain⟨sl,e1⟩:=I.base.slot b o e n hb hx;exact⟨sl,(sb.2 b (Yx b o e)).trans e1⟩
 ·obtain⟨o',e1⟩:=I.base.there b o e hx;exact⟨o',(sb.2 b (Yx b o e)).trans e1⟩
 ·rw[List.getElem?_replicate]at e
  split at e<;>cases e
 ·obtain⟨v,o,ho,hd⟩:=I.cell x c e;exact⟨v,o,(sb.2 c (I.Ve x c e)).trans ho,hd⟩
 ·obtain⟨e,n,ne,nf,d⟩:=I.pin p hp;exact⟨(sb.2 p.1 ne).trans e,n,ne,nf,d⟩
 ·refine(I.hok b u e).stay (fun c v hc r=>(sb.2 c ?_).trans r) (fun _ r=>r) fun _ _ r=>r
  rintro rfl
  rcases hc with z|z
  ·rw[← z,I.free]at e;cases e
  ·rw[I.free]at z;cases z
end
abbrev Cx.tried(X:Cx)(pn:List (Addr×Obj))(W:Value→Shared→Prop):Cx:={ X with pn:=pn,xe:=W }
abbrev Cx.suite(X:Cx)(pn:List (Addr×Obj))(a:Addr):Cx:={ X with pn:=pn,xe:=fun _ _=>False,A:=X.A.mark (some (.ref a)),calm:=false }
section
variable{X:Cx}{pins pn:List (Addr×Obj)}{σ:St}{H:Hp}{s:Shared}{W:Value→Shared→Prop}{a:Addr}
theorem AM(k:X.Ok):(X.tried pn W).Ok:=⟨k.mod,k.kind,k.glob,k.blt,k.above,k.inj,k.has,k.cab,k.hd,k.frames,k.stk,k.W8,k.bs,k.Tg,k.Rm,k.Sd,k.Pk,k.Ud⟩
theorem vK(k:(X.tried pn W).Ok):X.Ok:=⟨k.mod,k.kind,k.glob,k.blt,k.above,k.inj,k.has,k.cab,k.hd,k.frames,k.stk,k.W8,k.bs,k.Tg,k.Rm,k.Sd,k.Pk,k.Ud⟩
theorem AN(k:X.Ok):(X.suite pn a).Ok:=⟨k.mod,k.kind,k.glob,k.blt,k.above,k.inj,k.has,k.cab,fun z=>Bool.noConfusion z,k.frames,k.stk,k.W8,k.bs,k.Tg,k.Rm,k.Sd,k.Pk,k.Ud⟩
theorem qv(I:Inv X pins σ H s):Inv (X.tried (X.pn++pins) W) [] σ H s:=⟨AM I.ok,I.os,I.bare,I.base,I.loc,I.cell,I.free,I.Nh,fun p hp=>I.pin p (by simpa using hp),I.hok,I.len⟩
theorem fW(k:X.Ok)(I:Inv (X.tried (X.pn++pins) W) [] σ H s):Inv X pins σ H s:=⟨k,I.os,I.bare,I.base,I.loc,I.cell,I.free,I.Nh,fun p hp=>I.pin p (by simpa using hp),I.hok,I.len⟩
theorem yN(I:Inv (X.tried pn W) [] σ H s):Inv (X.suite pn a) [] σ H s:=⟨AN (vK I.ok),I.os,I.bare,I.base,I.loc,I.cell,I.free,I.Nh,I.pin,I.hok,I.len⟩
theorem uB(k:X.Ok)(I:Inv (X.suite (X.pn++pins) a) [] σ H s):Inv X pins σ H s:=⟨k,I.os,I.bare,I.base,I.loc,I.cell,I.free,I.Nh,fun p hp=>I.pin p (by simpa using hp),I.hok,I.len⟩
theorem vo{D:pj}{f:Flow}(k:X.Ok)(h:SP (X.tried (X.pn++pins) W) [] D f s):SP X pins D f s:=by
 cases f with
 |next=>obtain⟨σ',H',I,q⟩:=h;exact⟨σ',H',fW k I,q⟩
 |brk=>obtain⟨σ',H',I,q⟩:=h;exact⟨σ',H',fW k I,q⟩
 |cont=>obtain⟨σ',H',I,q⟩:=h;exact⟨σ',H',fW k I,q⟩
 |ret u=>obtain⟨v,σ',H',I,r,q⟩:=h;exact⟨v,σ',H',fW k I,r,q⟩
end
def Z5(K:W.Frag)(T:Addr)(i n:Nat)(ts:TS)(R:VK):XK:=fun cls dx H'=>W.exmOne K cls (.ref T)=some true∧∀(a:Addr)(σ':St),σ'.length=n→H' a=none→ts { nx:=fun _ _=>False,rt:=R } (σ'.set i (some (.ref a))) (upd H' a (kY a cls dx))
def Jr(K:W.Frag)(T:Addr)(i n:Nat)(tb:XK→TS)(ts:TS):TS:=fun D σ H=>tb (Z5 K T i n ts D.rt) D σ H
theorem FM{X:Cx}{body suite:List Stmt}{b0:Stmt}{tb:XK→TS}{ts:TS}{t n:Str}{T:Addr}{i:Nat}{tp Vv pos:Pos}(stk:X.stack=X.env::X.outer)(hf:X.env.frame=some X.env.locals)
  (hb:∀pn W Eb,fE (Qc X.prog X.w) (X.tried pn W) Eb→Q0 (X.tried pn W) body (tb Eb)) (hs:∀pn a,Q0 (X.suite pn a) (b0::suite) ts)
  (hN:X.N.Nodup) (hi:X.N[i]? =some n) (hn:X.env.scope.names.lookup n=some .local) (hg:Gl X t) (hm:X.mg t=some (.ref T)) (O1:(t==("__debug__":Str))=false:=by decide):
  PS X (.Try body [.ExceptHandler (some (.Name t tp)) (some n) (b0::suite) Vv] [] [] pos) (Jr X.K T i X.N.length tb ts):=by
 intro pins s σ H D I h
 let W:Value→Shared→Prop:=fun e s1=>∃(a:Addr)(cls a0:Value)(B:Heap)(σ':St)(H':Hp)(dx:Option Addr),e=.ref a∧Heap.FlyingW B X.stack a cls a0 s1.heap∧H' a=none∧mZ s1.heap a dx∧Z5 X.K T i X.N.length ts D.rt cls dx H'∧
  ∀h2,B.StaysIn h2→s1.heap.UpToSlots h2→(∃o vs,h2.get? a=some o∧o.cls=cls∧o.data=.fields vs∧o.dict=dx)→Inv X pins σ' (upd H' a (kY a cls dx)) { s1 with heap:=h2 }
 have pas:fE (Qc X.prog X.w) (X.tried (X.pn++pins) W) (Z5 X.K T i X.N.length ts D.rt):=by
  intro Ml σ' H1 s0 e s1 I1 c;obtain⟨a,cls,a0,B,H',dx,rfl,os,bare,un,hok,fl,cov,da,q⟩:=c
  have na:H' a=none:=by
   cases z:H' a with
   |none=>rfl
   |some u=>obtain⟨o',y⟩:=cov.2 a u z;rw[fl.2.1]at y;cases y
  exact⟨a,cls,a0,B,σ',H',dx,rfl,fl,na,da,q,fun h2 st up ex=>fW I.ok ((DL I1 os bare un hok fl cov st up ex).Mv (Ml:=[]) (fun p hp=>absurd hp (by simp)))⟩
 refine wpAny_Try_except (wpAny_mono (hb _ W _ pas [] s σ H D (qv I) h) (fun f s1 q=>?_) fun e s1 q=>?_)
 ·have q:=vo I.ok q
  cases f with
  |next=>exact wpAny_execs_nil q
  |brk=>exact q
  |cont=>exact q
  |ret u=>exact q
 ·obtain⟨a,cls,a0,B,σ',H',dx,rfl,fl,na,da,⟨hx,go⟩,Wj⟩:=q;have Vz:X.A.frames=some (X.env::X.outer):=by rw[I.ok.frames,stk]
  rw[stk]at fl;refine Bo (lL _ _) da (wpAny_looks_onW Vz hf fl fun h4 held up4 d4=>?_);refine Bo (jc _ _) d4 (wpAny_landsW held fun h5 Zt up5 d5=>?_)
  have TQ:∃o vs,h5.get? a=some o∧o.cls=cls∧o.data=.fields vs∧o.dict=dx:=by
   obtain⟨oe,vs,q1,q2,q3,_⟩:=Zt.first;obtain⟨o',y1,y2⟩:=d5;dsimp only at y1;rw[q1]at y1
   cases y1
   exact⟨oe,vs,q1,q2,q3,y2⟩
  have I5:=Wj h5 Zt.1 (up4.trans up5) TQ;refine wpAny_handleBy_cons (codeAny_handlers_test (Calls.Name_function_global I.ok.kind hg (Calls.loadGlobal_global (by rw[I.ok.glob];exact I.ok.mod.glob.keeps I5.bk) hm ?_) O1)) (by intro z;cases z)
  have LT:PySem.W.Looks (model X.prog X.w) h5 (typeOf (.ref a)) cls:=by obtain⟨o,vs,q1,q2,_⟩:=TQ;subst q2;exact(PySem.W.Looks.ld q1).andThen .now
  refine PySem.W.Looks.here (s:={ s1 with heap:=h5 }) (PySem.W.exm_one (K:=X.K) I5.Qq LT hx) ?_;refine codeAny_handlers_suite_as ?_;refine Bo (jc _ _) d5 (lands_againW Zt fun h6 fl6 up6 d6=>?_)
  have V1:∃o vs,h6.get? a=some o∧o.cls=cls∧o.data=.fields vs∧o.dict=dx:=by
   obtain⟨oe,vs,q1,q2,q3,_⟩:=fl6.first;obtain⟨o',y1,y2⟩:=d6;dsimp only at y1;rw[q1]at y1
   cases y1
   exact⟨oe,vs,q1,q2,q3,y2⟩
  have I6:=Wj h6 fl6.1 ((up4.trans up5).trans up6) V1;have I6s:Inv (X.suite (X.pn++pins) a) [] σ' (upd H' a (kY a cls dx)) { s1 with heap:=h6 }:=yN (W:=X.xe) (qv I6);refine nP (X:=X.suite (X.pn++pins) a) I6s hN hi (.inl hn) (v:=.ref a) rfl (fun s7 I7=>?_) (.inr hn);refine wpAny_mono (hs _ a [] s7 _ _ { nx:=fun _ _=>False,rt:=D.rt } I7 (go a σ' I6.len na)) (fun f s8 q=>?_) fun e s8 z=>z.elim
  cases f with
  |next=>obtain⟨_,_,_,z⟩:=q;exact z.elim
  |brk=>obtain⟨_,_,_,z⟩:=q;exact z.elim
  |cont=>obtain⟨_,_,_,z⟩:=q;exact z.elim
  |ret u=>obtain⟨v,σ8,H8,I8,r8,q8⟩:=q;have J8:=uB I.ok I8;obtain⟨m8,ns8,_⟩:=id J8.loc;refine wpAny_nameGoes hn ns8 (by rw[I.ok.kind];rfl) fun h9 m9 ns9 sb=>?_;exact⟨v,_,H8,J8.lost ns9 sb,r8,q8⟩
open PySem.W PySem.Builtin PySem.Builtin.ObjectAttr PySem.Builtin.Getset_descriptor
structure pM(K:Frag)(C:Addr):Prop where
 ga:findIn K (.ref C) "__getattribute__"=some (some (.builtin "BaseException.__getattribute__"))
 gt:findIn K (.ref C) "__getattr__"=some none
 mb:mroIn K C (.type "BaseException")=some true
section
variable{prog:Program}{w:World}{A:Around}{E:Value→Shared→Prop}{K:Frag}{x C:Addr}{name:Str}{tk:Tok}{s:Shared}
theorem wB{r:Found}{Q:Fin→Shared→Prop}(L0:Looks (model prog w) s.heap (typeOf (.ref x)) (.ref C))(L1:Looks (model prog w) s.heap (find (.ref x) (.ref C) name) r)
  (h:match r with
   |.value v=>Q (.done (.ret v)) s
   |.bind g a=>wpAny (model prog w) A (bindTo g a (.ref x) (.ref C)) Q E s
   |.missing=>False):wpAny (model prog w) A (Builtin.«object.__getattribute__» ⟨[.ref x,.str name tk],[]⟩) Q E s:=by
 obtain⟨hh,g,d,t,os⟩:=s;refine wpAny_bind (wpAny_pure (wpAny_bind (wpAny_pure (wpAny_bind (L0.at (wpAny_bind (L1.at ?_)))))))
 cases r with
 |value v=>exact wpAny_pure h
 |bind g a=>exact h
 |missing=>exact h.elim
theorem He{fill expr:Bool}{Q:Value→Shared→Prop}(c:pM K C)(NQ:K.In s.heap)(L0:Looks (model prog w) s.heap (typeOf (.ref x)) (.ref C))
  (h:codeAny (model prog w) A (.call (.builtin "BaseException.__getattribute__") ⟨[.ref x,.str name tk],[]⟩) (fun r s'=>match r with|.ok (.ret v)=>handedIn v=true∧Q v s'|_=>False) s):
  wpAny (model prog w) A (getAttrBy (.ref x) (.str name tk) fill expr) Q E s:=by
 obtain⟨hh,g,d,t,os⟩:=s;have L1:=looks_findIn (M:=model prog w) NQ c.ga;have L2:=looks_findIn (M:=model prog w) NQ c.gt
 have no:(onTheHeap (Value.ref C)&&Value.builtin "BaseException.__getattribute__"==Value.builtin "object.__getattribute__")=false:=by rw[show(Value.builtin "BaseException.__getattribute__"==Value.builtin "object.__getattribute__")=false by decide+kernel];rfl
 have no2:(expr&&onTheHeap (Value.builtin "BaseException.__getattribute__"))=false:=by cases expr<;>rfl
 unfold getAttrBy;refine wpAny_holding (wpAny_bind (L0.at (wpAny_bind (L1.at ?_))));dsimp only;rw[no,if_neg (by decide)];unfold getAttrByItsOwn callGetattribute boundAndCalled;rw[no2,if_neg (by decide)];refine wpAny_bind (L2.at (wpAny_bind (wpAny_attempt (wpAny_holding ?_))));rw[PySem.F.attr_ValueError.ga.bind];refine wpAny_bind (wpAny_pure (wpAny_call (codeAny_mono h fun r s' z=>?_)))
 cases r with
 |error e=>exact z.elim
 |ok f=>cases f with
  |ret v=>exact handed_on z.1 z.2
  |next=>exact z.elim
  |brk=>exact z.elim
  |cont=>exact z.elim
theorem zi{R:Result→Shared→Prop}(c:pM K C)(NQ:K.In s.heap)(L0:Looks (model prog w) s.heap (typeOf (.ref x)) (.ref C))
  (h:wpAny (model prog w) A.in1 (Builtin.«object.__getattribute__» ⟨[.ref x,.str name tk],[]⟩) (fun fin s'=>match fin with|.done f=>R (.ok f) s'|.again c'=>c'.quiet=true∧codeAny (model prog w) A c' R s') (fun e s'=>R (.error e) s') s):
  codeAny (model prog w) A (.call (.builtin "BaseException.__getattribute__") ⟨[.ref x,.str name tk],[]⟩) R s:=by
 have k1:builtinKind "BaseException.__getattribute__"=some .slot:=by decide+kernel
 have k2:splitId "BaseException.__getattribute__"=some ("BaseException","__getattribute__"):=by decide+kernel
 have WM:Looks (model prog w) s.heap (isInstance (.ref x) (.type "BaseException")) true:=L0.andThen (looks_mroIn NQ c.mb);refine codeAny_call_builtin PySem.F.attr_ValueError.ga.plain PySem.F.entry_bexc_ga (@check_slot (model prog w) _ _ s "BaseException.__getattribute__" "BaseException" "__getattribute__" (.ref x) [.str name tk] [] _ k1 k2 WM (PySem.F.args_bexc_ga (.ref x) (.str name tk)) ?_);exact h
theorem Ck{v:Value}{expr:Bool}{Q:Value→Shared→Prop}(c:pM K C)(NQ:K.In s.heap)(L0:Looks (model prog w) s.heap (typeOf (.ref x)) (.ref C))(L1:Looks (model prog w) s.heap (find (.ref x) (.ref C) name) (.value v))(hv:handedIn v=true)(h:Q v { s with toks:=s.toks+1 }):
  wpAny (model prog w) A (getAttr (.ref x) name expr) Q E s:=
 wpAny_bind (wpAny_mkText (He (s:={ s with toks:=s.toks+1 }) c NQ L0 (zi (s:={ s with toks:=s.toks+1 }) c NQ L0 (wB (s:={ s with toks:=s.toks+1 }) L0 L1 ⟨hv,h⟩))))
theorem Fa{R:Result→Shared→Prop}{tp:Value}(NQ:K.In s.heap)(L0:Looks (model prog w) s.heap (typeOf (.ref x)) (.ref C))(mo:mroIn K C (.type "object")=some true)(fin:R (.ok (.ret (.ref C))) s):
  codeAny (model prog w) A (.call (.builtin "getset_descriptor.__get__") ⟨[.builtin "object.__class__",.ref x,tp],[]⟩) R s:=by
 obtain⟨hh,g,d,t,os⟩:=s;have L1:=looks_mroIn (M:=model prog w) NQ mo;refine codeAny_call_builtin (id KF.slot_gs.plain) (id KF.entry_gs) (KF.slot_gs.check _ _ _ _ _ _ _ _ (id KF.type_class) (id (KF.args_gs _ _ _)) ?_);show wpAny (model prog w) A.in1 (descrGet _) _ _ _;unfold descrGet;rw[dga_obj];refine wpAny_bind (wpAny_pure ?_);simp only[descrGetter,descrCheckInstance,descrNameAndClass,isInstance,KF.owner_class]
 (repeat lk)
 refine⟨Code.quiet_builtin _ (id (by decide+kernel)),codeAny_builtin (id KF.entry_class) ?_⟩;simp only[Builtin.«object.__class__»,shownTypeOf]
 (repeat lk)
 exact fin
theorem Cm{Q:Option Value→Shared→Prop}(c:pM K C)(NQ:K.In s.heap)(L0:Looks (model prog w) s.heap (typeOf (.ref x)) (.ref C))
  (fc:findIn K (.ref C) "__class__"=some (some (.builtin "object.__class__"))) (fg:specialIn K (.builtin "object.__class__") "__get__"=some (some (.builtin "getset_descriptor.__get__"))) (ft:takesIn K (.builtin "object.__class__")=some true)
  (mo:mroIn K C (.type "object")=some true) (h:Q (some (.ref C)) { s with toks:=s.toks+1 }):
  wpAny (model prog w) A (getAttr? (.ref x) "__class__") Q E s:=by
 have Lf:Looks (model prog w) s.heap (find (.ref x) (.ref C) "__class__") (.bind (.builtin "getset_descriptor.__get__") (.builtin "object.__class__")):=by refine(looks_findIn NQ fc).andThen ((show Looks (model prog w) s.heap (getOf (some (.builtin "object.__class__"))) _ from looks_specialIn NQ fg).andThen ?_);exact(show Looks (model prog w) s.heap (dataDescriptor? (some (.builtin "object.__class__")) (some (.builtin "getset_descriptor.__get__"))) (some (.builtin "getset_descriptor.__get__",.builtin "object.__class__"))from(looks_takesIn NQ ft).andThen .now).andThen (Looks.tag .now)
 refine wpAny_bind (wpAny_mkText (wpAny_bind (wpAny_attempt (He (s:={ s with toks:=s.toks+1 }) c NQ L0 (zi (s:={ s with toks:=s.toks+1 }) c NQ L0 (wB (s:={ s with toks:=s.toks+1 }) L0 Lf ?_))))));show wpAny _ _ (holding [Value.builtin "object.__class__"] (call (.builtin "getset_descriptor.__get__") [.builtin "object.__class__",.ref x,.ref C]) >>= ret) _ _ _;exact wpAny_bind (wpAny_holding (wpAny_call (Fa (s:={ s with toks:=s.toks+1 }) NQ L0 mo (wpAny_pure ⟨rfl,wpAny_pure h⟩))))
end
noncomputable def ve:List Value→Bool
 |.ref _::r=>ve r
 |l=>l==[.type "ValueError",.type "Exception",.type "BaseException",.type "object"]
theorem iN:∀{l:List Value},ve l=true→l= [.type "ValueError",.type "Exception",.type "BaseException",.type "object"]∨∃c r,l=.ref c::r∧ve r=true:=by
 intro l e;unfold ve at e
 split at e
 ·exact .inr ⟨_,_,rfl,e⟩
 ·exact .inl (beq_iff_eq.mp e)
theorem tq(self:Value):∀(l:List Value),ve l=true→refuseLoop self "__setattr__" l=pure ():=by
 intro l
 induction l with
 |nil=>intro e;rcases iN e with z|⟨_,_,z,_⟩<;>cases z
 |cons x r ih=>
  intro e;rcases iN e with z|⟨c,r',z,e'⟩
  ·rw[z];exact PySem.F.store_ValueError.passes self
  ·cases z;rw[refuseLoop_ref];exact ih e'
theorem tu:∀(l:List Value),ve l=true→l.contains (.type "object")=true:=by
 intro l
 induction l with
 |nil=>intro e;rcases iN e with z|⟨_,_,z,_⟩<;>cases z
 |cons x r ih=>
  intro e;rcases iN e with z|⟨c,r',z,e'⟩
  ·rw[z];decide+kernel
  ·cases z;rw[List.contains_cons,ih e',Bool.or_true]
def Fd(K:Frag)(C:Addr):Bool:=(clsIn K C).any fun cd=>cd.hasDict&&ve cd.mro
noncomputable def wz(K:Frag)(C:Addr)(QV:List Value)(Mx:String):Bool:=match K.lookup C with
 |some ⟨.type "type",_,.cls cd,sl⟩=>(match cd.mro,sl.toList with
  |.ref C'::bm,[_,_,_,_,some (.builtin n),_]=>C'==C&&(n==Mx&&(!cd.hasDel&&tailIn K QV bm))
  |_,_=>false)
 |_=>false
theorem sX{K:Frag}{h:Heap}{C:Addr}{QV:List Value}{Mx:String}(NQ:K.In h)(ok:wz K C QV Mx=true):
  ∃bm N nm q bs hdct sn sub ab col dd k0 k1 k2 k3 k5,h.get? C=some (excClassObj nm q C N bs bm hdct sn sub ab col dd k0 k1 k2 k3 k5 Mx)∧OwnTail h QV bm:=by
 unfold wz at ok
 split at ok
 case h_2=>exact absurd ok (by decide)
 case h_1 dict V3 Yn lk=>
  split at ok
  case h_2=>exact absurd ok (by decide)
  case h_1 C2 tl f0 f1 f2 f3 nid f5 em es=>
   rw[acf,acf,acf]at ok;obtain⟨z1,z2,z3,z4⟩:=ok;rw[Bool.not_eq_true']at z3;have V2:Yn= #[f0,f1,f2,f3,some (.builtin nid),f5]:=Array.toList_inj.mp es
   cases beq_iff_eq.mp z1
   cases beq_iff_eq.mp z2
   rcases V3 with⟨c1,c2,c3,c4,c5,c6,c7,c8,c9,ZK,ZJ⟩
   change c3=_ at em;change ZJ=false at z3;subst em z3 V2;exact⟨tl,c4,c1,c5,c2,c6,c7,c8,c9,ZK,dict,f0,f1,f2,f3,f5,NQ _ _ lk,tail_of_in NQ z4⟩
section
variable{prog:Program}{w:World}{A:Around}{E:Value→Shared→Prop}{h:Heap}{g:Array GenState}{d:Drawn}{t:Nat}{os:OsState}
variable{nm q:Str}{C N fI:Addr}{bs bm QV Wc us:List Value}{hdct:Bool}{sn:List Str}{sub:List Value}{ab:Bool}{col:Option Bool}{dd:Option Addr}{k0 k1 k2 k3 k5:Option Value}{B Bn Mx nid Qf inN:String}{oI:Obj}
noncomputable def jn(h:Heap)(C:Addr)(us:List Value):Heap:=
 (h.push { cls:=.type "tuple",data:=.seq us.toArray }).push { cls:=.ref C,data:=.fields #[.ref h.objs.size,.none,.none,.none,.bool false,.none] }
theorem gQ{b:Addr}{o:Obj}(e:h.get? b=some o):(jn h C us).get? b=some o:=Heap.get?_push_of_some _ (Heap.get?_push_of_some _ e)
theorem lZ:(jn h C us).get? (h.objs.size+1)=some { cls:=.ref C,data:=.fields #[.ref h.objs.size,.none,.none,.none,.bool false,.none] }:=by unfold jn;heap_get
theorem Cl{Q:Fin→Shared→Prop}(Fn:ExcBaseFacts Bn Mx inN Wc)(U_:QV.contains (.type Bn)=true)(FB:ExcBaseFacts B nid Qf QV)(T:OwnTail h QV bm)
  (hc:h.get? C=some (excClassObj nm q C N bs bm hdct sn sub ab col dd k0 k1 k2 k3 k5 Mx)) (li:∀h',(∀b o,h.get? b=some o→h'.get? b=some o)→Looks (model prog w) h' (typeLookup (.ref C) "__init__") (some (.ref fI)))
  (fo:h.get? fI=some oI) (fc:oI.cls=.type "function") (len:us.length≤sizeLine)
  (go:wpAny (model prog w) A (call (.ref fI) (.ref (h.objs.size+1)::us)) (fun r s'=>r=.none∧Q (.done (.ret (.ref (h.objs.size+1)))) s') E ⟨jn h C us,g,d,t,os⟩):
  wpAny (model prog w) A (Builtin.«type.__call__» ⟨.ref C::us,[]⟩) Q E ⟨h,g,d,t,os⟩:=by
 repeat (first|with_reducible refine wpAny_madeBy_exc hc ?_|with_reducible refine wpAny_loadPart_at hc ?_|wp_step)
 refine codeAny_call_builtin_code (Code.quiet_builtin _ Fn.quiet) (wpAny_check_new_subU Fn U_ T hc (codeAny_exc_new_subU Fn U_ FB T hc ?_ len));change wpAny _ _ _ _ _ _;have Tz:(Value.ref C::bm).contains (.ref C)=true:=by rw[List.contains_cons];simp
 have c1:(jn h C us).get? C=some (excClassObj nm q C N bs bm hdct sn sub ab col dd k0 k1 k2 k3 k5 Mx):=gQ hc;have e1:=lZ (h:=h) (C:=C) (us:=us);have L:=li (jn h C us) fun b o e=>gQ e;have f1:(⟨jn h C us,g,d,t,os⟩:Shared).TypeIs (.ref fI) "function":=⟨_,gQ fo,fc⟩
 change wpAny _ _ _ _ _ ⟨jn h C us,g,d,t,os⟩;unfold isInstance
 repeat (first|(with_reducible refine wpAny_isSubtype_exc c1 ?_;rw[Tz])|with_reducible refine wpAny_loadPart_at e1 ?_|wp_step)
 change wpAny _ _ (typeLookup (.ref C) _) _ _ _;refine L.at ?_;refine wpAny_holding (wpAny_bind ?_);unfold bindSpecial;refine wpAny_bind (wpAny_typeOf f1 ?_);rw[if_pos (by decide)];refine wpAny_pure (wpAny_bind (wpAny_mono go (fun r s' z=>?_) fun _ _ z=>z));obtain⟨rfl,z⟩:=z
 wp_walk
 exact z
theorem EZ{Q:Value→Shared→Prop}(Fn:ExcBaseFacts Bn Mx inN Wc)(U_:QV.contains (.type Bn)=true)(FB:ExcBaseFacts B nid Qf QV)(T:OwnTail h QV bm)
  (hc:h.get? C=some (excClassObj nm q C N bs bm hdct sn sub ab col dd k0 k1 k2 k3 k5 Mx)) (li:∀h',(∀b o,h.get? b=some o→h'.get? b=some o)→Looks (model prog w) h' (typeLookup (.ref C) "__init__") (some (.ref fI)))
  (fo:h.get? fI=some oI) (fc:oI.cls=.type "function") (len:us.length≤sizeLine)
  (go:wpAny (model prog w) (A.under (.builtin "type.__call__" ⟨.ref C::us,[]⟩)) (call (.ref fI) (.ref (h.objs.size+1)::us)) (fun r s'=>r=.none∧Q (.ref (h.objs.size+1)) s') E ⟨jn h C us,g,d,t,os⟩):
  wpAny (model prog w) A (call (.ref C) us) Q E ⟨h,g,d,t,os⟩:=by
 have g1:=tc_lookup;have g2:=tc_bind (.ref C);have ty:(⟨h,g,d,t,os⟩:Shared).TypeIs (.ref C) "type":=⟨_,hc,rfl⟩
 refine wpAny_call (codeAny_of_tree ?_);change wpAny _ _ (callAny (.ref C) _) _ _ _
 repeat (any_goals (first|with_reducible refine wpAny_loadPart_at hc ?_|assumption|wp_step))
 refine⟨rfl,codeAny_call_builtin_at (Code.quiet_builtin _ (by decide+kernel)) entry_typeCall (wpAny_check_type_call_sub hc (Cl Fn U_ FB T hc li fo fc len go))⟩
end
noncomputable def gy(h:Heap)(x:Addr):Heap:=(h.push { cls:=.type "dict",data:=.dict #[] }).update x fun o=> { cls:=o.cls,dict:=some h.objs.size,data:=o.data,slots:=o.slots }
section
variable{prog:Program}{w:World}{A:Around}{E:Value→Shared→Prop}{K:Frag}{x C:Addr}{ox:Obj}{name:Str}{tk:Tok}{v:Value}{s:Shared}
theorem zh{h:Heap}(hx:x<h.objs.size):(gy h x).get? h.objs.size=some { cls:=.type "dict",data:=.dict #[] }:=by unfold gy;rw[Heap.get?_update_ne _ _ _ _ (Nat.ne_of_gt hx)];exact Heap.get?_push_at rfl rfl
theorem Hc{R:Result→Shared→Prop}(NQ:K.In s.heap)(I:W.InstAt s.heap x ox C none)(hdn:ox.dict=none)(vc:Fd K C=true)(ha:findIn K (.ref C) name=some none)
  (go:∀h',h'.Ns1 s.heap.objs.size (fun y=>if y=name then some v else none)→Heap.SameBut s.heap.objs.size (gy s.heap x) h'→R (.ok (.ret .none)) { s with heap:=h',toks:=s.toks+1 }):
  codeAny (model prog w) A (.call (.builtin "object.__setattr__") ⟨[.ref x,.str name tk,v],[]⟩) R s:=by
 obtain⟨cd,hc,hv⟩:=any_some vc;rw[acf]at hv
 have ne:cd.mro.isEmpty=false:=by
  cases z:cd.mro with
  |nil=>rw[z]at hv;exact absurd (tu _ hv.2) (by decide)
  |cons _ _=>rfl
 have isO:Looks (model prog w) s.heap (isInstance (.ref x) (.type "object")) true:=I.type.andThen (looks_mroIn NQ (by unfold mroIn;rw[hc,Option.bind_some,if_neg (by rw[ne];decide),tu _ hv.2]));have hm:Looks (model prog w) s.heap (mroOf (.ref C)) cd.mro:=(looks_clsIn NQ hc).andThen .now;refine codeAny_call_builtin PySem.F.store_object.slot.plain PySem.F.store_object.entry (@check_slot (model prog w) _ _ s "object.__setattr__" "object" "__setattr__" (.ref x) [.str name tk,v] [] _ PySem.F.store_object.kind PySem.F.store_object.split isO (PySem.F.store_object.args (.ref x) (.str name tk) v) ?_);rw[osa_eq,refuse_eq];refine wpAny_bind (wpAny_bind (I.type.here (wpAny_bind (hm.here ?_))));rw[tq _ _ hv.2];refine wpAny_pure (wpAny_bind (I.type.here (wpAny_bind ((looks_findIn NQ ha).here (wpAny_bind (wpAny_pure (a:=none) ?_))))));obtain⟨hx,S8,hn, -⟩:=I;obtain⟨oc,odi,oda,Qv⟩:=ox;dsimp only at S8 hdn;subst S8 hdn;refine wpAny_bind (wpAny_pure (wpAny_bind (wpAny_bind (wpAny_loadPart hx (wpAny_bind ((looks_clsIn NQ hc).here ?_))))));rw[hv.1,if_neg (by decide)];dsimp only;rw[if_neg (by simp[typeHasDict])]
 split
 ·cases hn
 ·have x1:(s.heap.push { cls:=.type "dict",data:=.dict #[] }).get? x=some { cls:=.ref C,data:=oda,slots:=Qv }:=Heap.get?_push_of_some _ hx;refine wpAny_bind (wpAny_alloc' (wpAny_bind (wpAny_update' x1 (wpAny_pure ?_))));show wpAny _ _ (storeInDict s.heap.objs.size (.str name tk) name v) _ _ { s with heap:=gy s.heap x };have e0:(gy s.heap x).Ns s.heap.objs.size (fun _=>none):=⟨_, #[],_,zh (Heap.lt_size hx),rfl,fun e he=>absurd he (by simp),fun _=>rfl⟩
  unfold storeInDict newKeyGuard;refine wpAny_bind (wpAny_pure (wpAny_bind (wpAny_nsSet1 (s:={ s with heap:=gy s.heap x }) (Heap.Ns1.of_empty e0) fun h' n1 sb=>?_)));obtain⟨oD,esD,epD,hoD,hdD,hcD⟩:=n1.count (PySem.Within.cons name v PySem.Within.nil);refine wpAny_bind (wpAny_lookBehind hoD (by rw[hdD];exact pastItsLine_dict (Nat.le_trans hcD (by rw[sizeLine_eq,List.length_singleton];decide))) ?_);exact wpAny_pure (go h' n1 sb)
end
def Fr0(vs:Array Value):Prop:=∃t:Addr,vs= #[.ref t,.none,.none,.none,.bool false,.none]
noncomputable def uX(a:Addr)(cls:Value):HO:=.ext fun h=>∃o vs,h.get? a=some o∧o.cls=cls∧o.data=.fields vs∧o.dict=none∧Fr0 vs
noncomputable def ph(a:Addr)(cls:Value)(dx:Addr):HO:=.ext fun h=>∃o vs,h.get? a=some o∧o.cls=cls∧o.data=.fields vs∧o.dict=some dx∧Fr0 vs
noncomputable def Ri(dx:Addr)(f:Str)(y:V):HO:=.ext fun h=>∃mA u,h.Ns1 dx mA∧mA f=some u∧bB y u
noncomputable def KZ(a:Addr):HO:=.ext fun h=>∃o,h.get? a=some o
structure Ti(K:Frag)(C fI:Addr)(f:Str):Prop where
 lies:wz K C [.type "ValueError",.type "Exception",.type "BaseException",.type "object"] "ValueError.__new__"=true
 init:findIn K (.ref C) "__init__"=some (some (.ref fI))
 fn:isFn K (.ref fI)=true
 kp:keepIn K (.ref C)=true
 v:Fd K C=true
 sa:findIn K (.ref C) "__setattr__"=some (some (.builtin "object.__setattr__"))
 no:findIn K (.ref C) f=some none
 hd:hasDictIn K C=true
 x:pM K C
section
variable{X:Cx}{pins:List (Addr×Obj)}{σ:St}{H:Hp}{s:Shared}{a C dx fI:Addr}{f:Str}{y:V}{u:Value}{A:Around}{E:Value→Shared→Prop}
theorem zp{H:Hp}{a b:Addr}{o o' t:HO}(ne:a≠b):upd (upd (upd H b t) a o) b o'=upd (upd H a o) b o':=by
 funext c
 unfold upd
 by_cases h1:c=b
 ·simp[h1]
 ·simp[h1]
theorem Ci{Q:Unit→Shared→Prop}(I:Inv X pins σ H s)(e:H a=some (uX a (.ref C)))(c:Ti X.K C fI f)(ry:bB y u)
  (go:∀dx s',H dx=none→a≠dx→Inv X pins σ (upd (upd H a (ph a (.ref C) dx)) dx (Ri dx f y)) s'→Q () s'):wpAny (model X.prog X.w) A (setAttr (.ref a) f u) Q E s:=by
 obtain⟨⟨o,vs,ho,S8,Uy,Ux,f0⟩,_,_⟩:=(show bR X.prog X.w H s.heap a (uX a (.ref C))from I.hok a _ e)
 have J:W.InstAt s.heap a o C none:=⟨ho,S8,by unfold notCls;rw[Uy],by rw[Ux];exact True.intro⟩
 refine set_plain I.Qq J c.sa (Hc (s:={ s with toks:=s.toks+1 }) I.Qq J Ux c.v c.no fun h' ns sb=>?_);have lt:a<s.heap.objs.size:=Heap.lt_size ho;have ne:a≠s.heap.objs.size:=Nat.ne_of_lt lt;have hp:(s.heap.push { cls:=.type "dict",data:=.dict #[] }).get? a=some o:=Heap.get?_push_of_some _ ho
 have hu:(gy s.heap a).get? a=some { cls:=o.cls,dict:=some s.heap.objs.size,data:=o.data,slots:=o.slots }:=by
  unfold gy;refine Heap.get?_update_self _ hp ?_;have fr:=(Heap.get?_some_iff.mp ho).2;obtain⟨oc,od,Wu,Qv⟩:=o
  cases Wu<;>first|rfl|exact fr
 have hk:∀b q,b≠a→(s.heap.push { cls:=.type "dict",data:=.dict #[] }).get? b=some q→(gy s.heap a).get? b=some q:=fun b q hb z=>by unfold gy;rw[Heap.get?_update_ne _ _ _ _ hb];exact z
 have I1:=I.laid (a:=s.heap.objs.size) (o:=KZ s.heap.objs.size) (h':=s.heap.push { cls:=.type "dict",data:=.dict #[] }) (t':=s.toks) (fun b q z=>Heap.get?_push_of_some _ z) (acg _)
  ⟨⟨_,Heap.get?_push_at rfl rfl⟩,⟨_,Heap.get?_push_at rfl rfl⟩,(by rintro h1 h2 ⟨o,z⟩ k;exact ⟨o,k o z⟩)⟩
 have I2:=I1.write (x:=a) (e:=a) (o:=ph a (.ref C) s.heap.objs.size) (h':=gy s.heap a) (t':=s.toks) (by rw[ak ne,e];exact True.intro) (.inl rfl) hk ⟨_,hu⟩
  ⟨⟨_,vs,hu,S8,Uy,rfl,f0⟩,⟨_,hu⟩,(by rintro h1 h2 ⟨o,vs,z,r⟩ k;exact ⟨o,vs,k o z,r⟩)⟩
 have nu:∃q,h'.get? s.heap.objs.size=some q:=let⟨q,_,_,z,_⟩:=ns;⟨q,z⟩
 have I3:=I2.write (x:=s.heap.objs.size) (e:=s.heap.objs.size) (o:=Ri s.heap.objs.size f y) (h':=h') (t':=s.toks+1+1) (by rw[ak (Ne.symm ne),aJ];exact True.intro) (.inl rfl) (fun b q hb z=>(sb.2 b hb).trans z) nu
  ⟨⟨_,u,ns,by rw[if_pos rfl],ry⟩,nu,(by rintro h1 h2 ⟨mA,u',⟨od,es,ep,z,r⟩,r2⟩ k;exact ⟨mA,u',⟨od,es,ep,k _ z,r⟩,r2⟩)⟩
 rw[zp ne]at I3;exact go _ _ (I.hok.fresh (acg _)) ne I3
theorem Cj{b:Bool}{Q:Value→Shared→Prop}(I:Inv X pins σ H s)(e:∃o vs,s.heap.get? a=some o∧o.cls=.ref C∧o.data=.fields vs∧o.dict=some dx)(d:H dx=some (Ri dx f y))(c:Ti X.K C fI f)
  (go:∀u s',Inv X pins σ H s'→bB y u→Q u s'):wpAny (model X.prog X.w) A (getAttr (.ref a) f b) Q E s:=by
 obtain⟨o,vs,ho,S8,Uy,Ux⟩:=e;obtain⟨⟨mA,u,ns,hu,ry⟩,_,_⟩:=(show bR X.prog X.w H s.heap dx (Ri dx f y)from I.hok dx _ d)
 obtain⟨od,hod,hl⟩:=qg ns;have J:W.InstAt s.heap a o C (some od):=⟨ho,S8,by unfold notCls;rw[Uy],by rw[Ux];exact hod⟩
 exact Ck c.x I.Qq J.type (looks_find I.Qq J (findObj_own c.hd c.no rfl (by rw[hl,hu]))) (yQ ry) (go u _ (I.tok _) ry)
end
def Eh(K:Frag)(f:Str)(ta tv:TE):TS:=fun D σ H=>tv σ H fun y H1=>ta σ H1 fun x H2=>∃a C fI,x=.ref a∧H2 a=some (uX a (.ref C))∧Ti K C fI f∧∀dx,H2 dx=none→a≠dx→D.nx σ (upd (upd H2 a (ph a (.ref C) dx)) dx (Ri dx f y))
section
variable{X:Cx}{o value:Expr}{f:Str}{pos pos':Pos}{ta tv:TE}
theorem CS(ha:PE X o ta)(hv:PE X value tv)(hs:swapsWith value (some (.Attribute o f pos')) pos.line X.env=pure false):PS X (.Assign [.Attribute o f pos'] value pos) (Eh X.K f ta tv):=by intro pins s σ H D I h;refine plainObj_wpAny_Assign_Attribute (J6 (hv pins s σ H _ I h) fun u s1 ⟨y,H1,I1,ry,q⟩=>J6 (ha pins s1 σ H1 _ I1 q) ?_) hs;rintro ov s2 ⟨x,H2,I2,rx,a,C,fI,ex,ea,c,q2⟩;subst ex;obtain rfl:ov=Value.ref a:=rx;exact Ci I2 ea c ry fun dx s3 nd ne I3=>⟨σ,_,I3,q2 dx nd ne⟩
end
def vp(K:Frag)(f:Str):Sp:=fun vs H Q _=>∃a C fI y,vs= [.ref a,y]∧H a=some (uX a (.ref C))∧Ti K C fI f∧∀dx,H dx=none→a≠dx→Q .non (upd (upd H a (ph a (.ref C) dx)) dx (Ri dx f y))
theorem zy{K:Frag}{f:Str}{vs:List V}{H:Hp}{Q:VK}{E:XK}(h:vp K f vs H Q E):vs.length=2:=by obtain⟨_,_,_,_,rfl,_⟩:=h;rfl
theorem Bw{P:Program}{w:World}{K:Frag}{mg:Str→Option Value}{base:Heap}{x C_ f:Str}{st:Stmt}{fI:Addr}{fd:FuncData}{N ps:List Str}(Fn:Tn K x C_ st fI fd)(Sc:gY N ps (aP st))(hl:ps.length=2)
  (hb:∀(Mg:Value)(A:Around)(outer:List Env)(s:Shared)(H:Hp)(E:XK),Q0 (jH Py P w K mg base N C_ (aP st) fI Mg A outer s H E) (dD st) (Eh K f (Cq 0) (Cq 1))):
  dE P w K mg base Py 1 fI fd ps (vp K f):=by
 obtain⟨oc,od,kV,doc,pm,an,Mg,ct,Qv,rfl,lk,Qw⟩:=Fn.ex;refine By lk Qw Sc (fun vs H Q E h=>(zy h).trans hl.symm) fun A outer s H vs Q E hr h=>⟨_,hb Mg A outer s H E,?_⟩
 obtain⟨a,C,fI',y,rfl,ea,c,q⟩:=h;exact⟨y,rfl,.ref a,rfl,a,C,fI',rfl,ea,c,q⟩
section
variable{X:Cx}{C fI:Addr}{fd:FuncData}{ps:List Str}{f x:Str}{e:Expr}{pos p apos:Pos}{ta:TA}
theorem ye{pins:List (Addr×Obj)}{σ:St}{H:Hp}{s:Shared}{Q:Value→Shared→Prop}{u:Value}{y:V}(F:dE X.prog X.w X.K X.mg X.base Py 1 fI fd ps (vp X.K f))(c:Ti X.K C fI f)(hb:fh X.K fd ps [])(hl:ps.length=2)(hr:cX 2 X.A)(I:Inv X pins σ H s)(ry:bB y u)
  (go:∀a dx s',H a=none→H dx=none→a≠dx→X.s₀.heap.get? a=none→Inv X pins σ (upd (upd H a (ph a (.ref C) dx)) dx (Ri dx f y)) s'→Q (.ref a) s'):wpAny (model X.prog X.w) X.A (call (.ref C) [u]) Q X.xe s:=by
 obtain⟨bm,N,nm,q,bs,hdct,sn,sub,ab,col,dd,k0,k1,k2,k3,k5,hC,T⟩:=sX I.Qq c.lies;have L:∀h',(∀b o,s.heap.get? b=some o→h'.get? b=some o)→Looks (model X.prog X.w) h' (typeLookup (.ref C) "__init__") (some (.ref fI)):=fun h' k=>looks_findIn (I.Qq.keeps k) c.init
 obtain⟨oI,fo,fc⟩:∃oI,s.heap.get? fI=some oI∧oI.cls=.type "function":=by have z:typeIn X.K (.ref fI)=some (.type "function"):=beq_iff_eq.mp c.fn;obtain⟨oI,h1,h2⟩:=Option.map_eq_some_iff.mp (show(X.K.lookup fI).map (·.cls)=some (.type "function")from z);exact⟨oI,I.Qq _ _ h1,h2⟩
 have fr1:H (s.heap.objs.size+1)=none:=I.hok.fresh (Nat.le_succ _)
 have I2:Inv X pins σ (upd H (s.heap.objs.size+1) (uX (s.heap.objs.size+1) (.ref C))) { s with heap:=jn s.heap C [u],toks:=s.toks }:=
  I.laid (a:=s.heap.objs.size+1) (h':=jn s.heap C [u]) (t':=s.toks) (fun b q z=>gQ z) (Nat.le_succ _)
   ⟨⟨_,_,lZ,rfl,rfl,rfl,⟨_,rfl⟩⟩,⟨_,lZ⟩,(by rintro h1 h2 ⟨o,vs,z,r⟩ k;exact ⟨o,vs,k o z,r⟩)⟩
 have Yw:X.s₀.heap.get? (s.heap.objs.size+1)=none:=by
  cases z:X.s₀.heap.get? (s.heap.objs.size+1)with
  |none=>rfl
  |some o=>exact absurd (Nat.lt_of_lt_of_le (Heap.lt_size z) I.sz) (by omega)
 obtain⟨hp,g,d,t,os⟩:=s;refine EZ PySem.F.excBase_ValueError (by decide+kernel) PySem.F.excBase_ValueError T hC L fo fc (by show 1≤sizeLine;decide) ?_
 have q2:vp X.K f [.ref (hp.objs.size+1),y] (upd H (hp.objs.size+1) (uX (hp.objs.size+1) (.ref C))) (fun v H'=>v=.non∧∃dx,upd H (hp.objs.size+1) (uX (hp.objs.size+1) (.ref C)) dx=none∧hp.objs.size+1≠dx∧H'=upd (upd (upd H (hp.objs.size+1) (uX (hp.objs.size+1) (.ref C))) (hp.objs.size+1) (ph (hp.objs.size+1) (.ref C) dx)) dx (Ri dx f y)) E0:=
  ⟨_,C,fI,y,rfl,aJ,c,fun dx nd ne=>⟨rfl,dx,nd,ne,rfl⟩⟩
 have bd:=hb _ [.ref (hp.objs.size+1),u] I2.Qq (by rw[List.append_nil,hl];rfl);rw[List.append_nil]at bd;refine wpAny_call (codeAny_mono (F.run _ X.stack _ _ ⟨[.ref (hp.objs.size+1),u],[]⟩ [.ref (hp.objs.size+1),u] [.ref (hp.objs.size+1),y] _ E0 (hr.make C [u] []) (I2.env0.make C [u] []) bd (.cons rfl (.cons ry .nil)) q2) fun r s' hq=>?_)
 cases r with
 |error e=>exact hq.elim
 |ok fl=>
  cases fl with
  |ret z=>obtain⟨v,H',I3,rv,ev,dx,nd,ne,eH⟩:=I2.after hq;subst ev eH;rw[wD]at I3;exact⟨rv,go _ dx _ fr1 (by rw[ak (Ne.symm ne)]at nd;exact nd) ne Yw I3⟩
  |next=>exact False.elim hq
  |brk=>exact False.elim hq
  |cont=>exact False.elim hq
def Cr(K:Frag)(C fI:Addr)(f:Str)(E:XK)(ta:TA):TS:=fun _ σ H=>ta σ H fun vs H1=>∃y,vs= [y]∧Ti K C fI f∧∀dx,H1 dx=none→E (.ref C) (some dx) (upd H1 dx (Ri dx f y))
theorem vx{M:Model}{A:Around}{Ee:Value→Shared→Prop}{env:Env}{x:Sem Value}{Q:Flow→Shared→Prop}{s:Shared}(hh:A.handled=none)
  (h:wpAny M A x (fun v s1=>∃(e C N t:Addr)(dx:Option Addr)(sl:Array (Option Value))(nm q:Str)(bs bm:List Value)(hdct:Bool)(sn:List Str)(sub:List Value)(ab:Bool)(col:Option Bool)(dd:Option Addr)(k0 k1 k2 k3 k5:Option Value)(nid:String),
   v=.ref e∧s1.heap.get? C=some (excClassObj nm q C N bs bm hdct sn sub ab col dd k0 k1 k2 k3 k5 nid)∧bm.contains (.type "BaseException")=true∧s1.heap.get? e=some ⟨.ref C,dx,.fields #[.ref t,.none,.none,.none,.bool false,.none],sl⟩∧Ee (.ref e) s1) Ee s):
  wpAny M A (raiseStmt env (some x) none) Q Ee s:=by
 unfold raiseStmt;refine wpAny_bind (wpAny_mono h (fun v s1 z=>?_) fun _ _ z=>z);obtain⟨e,C,N,t,dx,sl,nm,q,bs,bm,hdct,sn,sub,ab,col,dd,k0,k1,k2,k3,k5,nid,rfl,hC,hB,he,hE⟩:=z;have both:(Value.ref C::bm).contains (.type "BaseException")=true:=by rw[List.contains_cons,hB,Bool.or_true]
 obtain⟨hp,g,d,tk,os⟩:=s1
 repeat (first|with_reducible refine wpAny_loadPart_at he ?_|with_reducible refine wpAny_loadPart_at hC ?_|(with_reducible refine wpAny_isSubtype_exc hC ?_;rw[both])|wp_step)
 exact wpAny_raiseNew_none hh hE
theorem yk{E:XK}(F:dE X.prog X.w X.K X.mg X.base Py 1 fI fd ps (vp X.K f))(c:Ti X.K C fI f)(hb:fh X.K fd ps [])(hl:ps.length=2)(hr:cX 2 X.A)(hg:Gl X x)(hm:X.mg x=some (.ref C))(hc:X.calm=true)(l:Lv X E)(ha:PA X [e] ta)
  (O1:nD0 x:=by decide) (he:starEach [e] X.env= [(false,eval e X.env)]:=by rfl) (Ng:(backTo pos (starEach [] X.env)).any (·.1)=false:=by rfl):
  PS X (.Raise (some (.Call (.Name x p) [e] [] pos)) none apos) (Cr X.K C fI f E ta):=by
 intro pins s σ H D I h;rw[arm_exec_Raise];refine wpAny_bind (wpAny_standAt (vx (I.ok.hd hc) ?_));refine wpAny_mono (Q:=fun v s1=>∃a dx y H1,v=.ref a∧H1 a=none∧H1 dx=none∧a≠dx∧X.s₀.heap.get? a=none∧Inv X pins σ (upd (upd H1 a (ph a (.ref C) dx)) dx (Ri dx f y)) s1∧E (.ref C) (some dx) (upd H1 dx (Ri dx f y))) (wpAny_bind (wpAny_mono (wpAny_Call_Name_kw (nA I hg hm ?_ O1)) (fun v s1 z=>wpAny_bind (wpAny_standAt (wpAny_pure z))) fun _ _ z=>z)) (fun v s1 z=>?_) fun _ _ z=>z
 ·refine W.callWith_K (h₀:=X.base) I.ok.mod.NQ c.kp (J6 (ha pos pins s σ H _ I h) fun us s1 ⟨vs,H1,I1,r,y,ev,c',q⟩=>⟨I1.Qq,?_⟩) he Ng;subst ev;obtain⟨u,rfl,ru⟩:=r.one;exact ye F c hb hl hr I1 ru fun a dx s2 na nd ne new I2=>⟨a,dx,y,H1,rfl,na,nd,ne,new,I2,q dx nd⟩
 ·obtain⟨a,dx,y,H1,rfl,na,nd,ne,new,I1,q⟩:=z;obtain⟨bm,N,nm,q0,bs,hdct,sn,sub,ab,col,dd,k0,k1,k2,k3,k5,hC,T⟩:=sX I1.Qq c.lies;have ha:upd (upd H1 a (ph a (.ref C) dx)) dx (Ri dx f y) a=some (ph a (.ref C) dx):=by rw[ak ne,aJ]
  obtain⟨⟨o,vs,ho,S8,Uy,Ux,t,ht⟩,_,_⟩:=(show bR X.prog X.w _ s1.heap a (ph a (.ref C) dx)from I1.hok a _ ha)
  obtain⟨oc,od,Wu,Qv⟩:=o;dsimp only at S8 Uy Ux;subst S8 Uy Ux ht;refine⟨a,C,N,t,_,_,nm,q0,bs,bm,hdct,sn,sub,ab,col,dd,k0,k1,k2,k3,k5,_,rfl,hC,T.hasType (by decide+kernel),ho,l.2.2.2 _ _ (yJ I1 l.1 l.2.1 l.2.2.1 ho rfl rfl rfl ha new ?_)⟩
  have:del (upd (upd H1 a (ph a (.ref C) dx)) dx (Ri dx f y)) a=upd H1 dx (Ri dx f y):=by
   funext b
   by_cases hb:b=a
   ·subst hb;rw[oS,ak ne,na]
   ·rw[jh hb]
    by_cases hd:b=dx
    ·subst hd;rw[aJ,aJ]
    ·rw[ak hd,ak hd,ak hb]
  rw[this];exact q
def Hh(K:Frag)(f:Str)(ta:TE):TE:=fun σ H Q=>ta σ H fun x H1=>∃a C fI dx y,x=.ref a∧H1 a=some (kY a (.ref C) (some dx))∧H1 dx=some (Ri dx f y)∧Ti K C fI f∧Q y H1
theorem Dc{o:Expr}{to:TE}(ho:PE X o to)(QL:attributeBase o f X.env (eval o X.env)=eval o X.env:=by rfl):PE X (.Attribute o f apos) (Hh X.K f to):=by
 intro pins s σ H Q I h;refine DU QL (J6 (ho pins s σ H _ I h) ?_);rintro u s1 ⟨v,H1,I1,rv,a,C,fI,dx,y,ev,e1,e2,c,q⟩;subst ev;obtain rfl:u=Value.ref a:=rv;refine Cj I1 ?_ e2 c fun u' s3 I3 ry=>⟨y,_,I3,ry,q⟩
 obtain⟨⟨o,vs,ho,S8,Uy,Ux⟩,_,_⟩:=(show bR X.prog X.w H1 s1.heap a (kY a (.ref C) (some dx))from I1.hok a _ e1)
 exact⟨o,vs,ho,S8,Uy,Ux⟩
end
section
variable{X:Cx}{pins:List (Addr×Obj)}{σ:St}{H:Hp}{s:Shared}{a:Addr}{kvs:List (Key×V)}
theorem Inv.QX(I:Inv X pins σ H s)(e:H a=some (.dK kvs)):∃o,Inv X pins σ (upd H a (.QX o (.dK kvs))) s:=by
 obtain⟨z,y,vs,r,o,es,ep,ho,rest⟩:=(show bR X.prog X.w H s.heap a (.dK kvs)from I.hok a _ e)
 refine⟨o,?_⟩
 have un:Un X.fs [] H (upd H a (.QX o (.dK kvs))) s.heap s.heap:=by
  refine⟨fun b u q _ _ _=>q,fun b u q _ _ _=>⟨u.slots,q⟩,fun b u q n _=>?_,fun b u q _=>⟨u,q⟩,fun b xs q=>?_,fun b u v q=>?_,fun b ps q=>⟨#[],?_⟩⟩
  ·have:b≠a:=fun w=>by subst w;rw[n]at e;cases e
   rw[ak this];exact n
  ·have:b≠a:=qd q e (by intro w;cases w);rw[ak this];exact q
  ·have:b≠a:=qd q e (by intro w;cases w);rw[ak this];exact q
  ·have:b≠a:=qd q e (by intro w;cases w);rw[ak this,q];simp
 have hok:Ob X.prog X.w (upd H a (.QX o (.dK kvs))) s.heap:=fun b u q=>by
  by_cases hb:b=a
  ·subst hb;rw[aJ]at q
   cases q
   exact⟨ho,z,y,vs,r,o,es,ep,ho,rest⟩
  ·rw[ak hb]at q;refine(I.hok b u q).stay (fun _ _ _ w=>w) (fun c w=>?_) fun c xs w=>?_
   ·have:c≠a:=qd w e (by intro w;cases w);rw[ak this];exact w
   ·have:c≠a:=qd w e (by intro w;cases w);rw[ak this];exact w
 exact I.un (t':=s.toks) un hok
def tFz(t:TE):TE:=fun σ H Q=>t σ H fun v H1=>Q v H1∨∃a kvs,H1 a=some (.dK kvs)∧∀o,Q v (upd H1 a (.QX o (.dK kvs)))
theorem Et{e:Expr}{t:TE}(h:PE X e t):PE X e (tFz t):=fun pins s σ H Q I q=>
 J6 (h pins s σ H _ I q) fun u s1 ⟨v,H1,I1,rv,q1⟩=>by
  rcases q1 with q1|⟨a,kvs,ea,q1⟩
  ·exact⟨v,H1,I1,rv,q1⟩
  ·obtain⟨o,I2⟩:=I1.QX ea;exact⟨v,_,I2,rv,q1 o⟩
end
end L2
namespace L3
open PySem PySem.Spec PyProof.Rows L2
abbrev St:=L2.St
abbrev PK:=Sum Int (List Nat)
noncomputable def S(l:List Nat):Str:=⟨l.toArray⟩
theorem IN(l:List Nat):(S l).cps.toList=l:=by simp[S]
theorem xR{a b:List Nat}(h:S a=S b):a=b:=by have:=congrArg (fun x=>x.cps.toList) h;simpa[S]using this
theorem fZ(l:List Nat):(S l).length=l.length:=by show(S l).cps.size=_;simp[S]
def tk:PK→Key
 |.inl i=>.inl i
 |.inr l=>.inr (S l)
theorem vm{a b:PK}(h:tk a=tk b):a=b:=by
 cases a<;>cases b<;>simp[tk]at h
 ·rw[h]
 ·rw[xR h]
inductive PV where
 |non|bl (b:Bool)|int (i:Int)|str (x:List Nat)|ty (n:String)|cls (C:Nat)
 |tup (xs:List PV)|lst (xs:List PV)|O7 (xs:List PV)|dct (kvs:List (PK×PV))|ins (C:Nat) (fs:List (Str×PV))
 |ref (i:Nat)|exc (C:Nat)|Og (C:Nat) (v:PV)
mutual
def PV.pure:PV→Bool
 |.ref _=>false
 |.tup xs=>ai xs
 |.lst xs=>ai xs
 |.O7 xs=>ai xs
 |.dct kvs=>eI kvs
 |.ins _ fs=>oj fs
 |.Og _ v=>v.pure
 |_=>true
def ai:List PV→Bool
 |[]=>true
 |x::r=>x.pure&&ai r
def eI:List (PK×PV)→Bool
 |[]=>true
 |(_,x)::r=>x.pure&&eI r
def oj:List (Str×PV)→Bool
 |[]=>true
 |(_,x)::r=>x.pure&&oj r
end
theorem fm:∀(l:List (PK×PV)),eI l=ai (l.map (·.2))
 |[]=>by simp[ai,eI]
 |(k,x)::r=>by simp[ai,eI,fm r]
theorem oi:∀(l:List (Str×PV)),oj l=ai (l.map (·.2))
 |[]=>by simp[ai,oj]
 |(k,x)::r=>by simp[ai,oj,oi r]
abbrev Tab:=Nat→Option Addr
mutual
inductive aH(K:W.Frag)(T:Tab)(F:Hp)(m:List Addr):PV→V→Prop where
 |non:aH K T F m .non .non
 |bl (b:Bool):aH K T F m (.bl b) (.bl b)
 |int (i:Int):aH K T F m (.int i) (.int i)
 |str (x:List Nat):aH K T F m (.str x) (.str (S x))
 |ty (n:String):aH K T F m (.ty n) (.ty n)
 |cls {C:Nat} {a:Addr} (c:T C=some a):aH K T F m (.cls C) (.ref a)
 |tup {ps:List PV} {a:Addr} {vs:List V} (e:NP K F a vs) (r:ay K T F m ps vs):aH K T F m (.tup ps) (.ref a)
 |lst {ps:List PV} {a:Addr} {vs:List V} (e:F a=some (.lst vs)) (r:ay K T F m ps vs):aH K T F m (.lst ps) (.ref a)
 |O7 {ps:List PV} {a:Addr} {vs:List V} (e:M_ K F a vs) (r:ay K T F m ps vs):aH K T F m (.O7 ps) (.ref a)
 |dct {kps:List (PK×PV)} {a:Addr} {o:Obj} {kvs:List (Key×V)} (e:F a=some (.QX o (.dK kvs))) (k:kvs.map (·.1)=kps.map (fun p=>tk p.1)) (r:ay K T F m (kps.map (·.2)) (kvs.map (·.2))):aH K T F m (.dct kps) (.ref a)
 |ins {C:Nat} {fs:List (Str×PV)} {a Ca dx:Addr} {XS:List (Str×V)} (c:T C=some Ca) (e:F a=some (.ins Ca dx XS)) (d:F dx=some (.own a)) (k:XS.map (·.1)=fs.map (·.1)) (r:ay K T F m (fs.map (·.2)) (XS.map (·.2))):aH K T F m (.ins C fs) (.ref a)
 |ref {i:Nat} {a:Addr} (e:m[i]? =some a):aH K T F m (.ref i) (.ref a)
 |exc {C:Nat} {a Ca:Addr} {dx:Option Addr} (c:T C=some Ca) (e:F a=some (kY a (.ref Ca) dx)):aH K T F m (.exc C) (.ref a)
 |Og {C:Nat} {a Ca dx:Addr} {p:PV} {y:V} (c:T C=some Ca) (e:F a=some (kY a (.ref Ca) (some dx))) (d:F dx=some (Ri dx "at" y)) (r:aH K T F m p y):aH K T F m (.Og C p) (.ref a)
inductive ay(K:W.Frag)(T:Tab)(F:Hp)(m:List Addr):List PV→List V→Prop where
 |nil:ay K T F m [] []
 |cons {p:PV} {v:V} {ps:List PV} {vs:List V} (r:aH K T F m p v) (t:ay K T F m ps vs):ay K T F m (p::ps) (v::vs)
end
section
variable{K:W.Frag}{T:Tab}{F F':Hp}{m m':List Addr}
mutual
theorem aH.mono(hF:di F F')(hm:∀(i:Nat)(a:Addr),m[i]? =some a→m'[i]? =some a):∀{p:PV}{v:V},aH K T F m p v→aH K T F' m' p v
 |_,_,.non=>.non
 |_,_,.bl b=>.bl b
 |_,_,.int i=>.int i
 |_,_,.str x=>.str x
 |_,_,.ty n=>.ty n
 |_,_,.cls c=>.cls c
 |_,_,.tup e r=>.tup (hF.Qs e) (ay.mono hF hm r)
 |_,_,.lst e r=>.lst (hF _ _ e) (ay.mono hF hm r)
 |_,_,.O7 e r=>.O7 (hF.seq e) (ay.mono hF hm r)
 |_,_,.dct e k r=>.dct (hF _ _ e) k (ay.mono hF hm r)
 |_,_,.ins c e d k r=>.ins c (hF _ _ e) (hF _ _ d) k (ay.mono hF hm r)
 |_,_,.ref e=>.ref (hm _ _ e)
 |_,_,.exc c e=>.exc c (hF _ _ e)
 |_,_,.Og c e d r=>.Og c (hF _ _ e) (hF _ _ d) (aH.mono hF hm r)
theorem ay.mono(hF:di F F')(hm:∀(i:Nat)(a:Addr),m[i]? =some a→m'[i]? =some a):∀{p:List PV}{v:List V},ay K T F m p v→ay K T F' m' p v
 |_,_,.nil=>.nil
 |_,_,.cons r t=>.cons (aH.mono hF hm r) (ay.mono hF hm t)
end
mutual
theorem aH.K5:∀{p:PV}{v:V},aH K T F m p v→p.pure=true→aH K T F m' p v
 |_,_,.non,_=>.non
 |_,_,.bl b,_=>.bl b
 |_,_,.int i,_=>.int i
 |_,_,.str x,_=>.str x
 |_,_,.ty n,_=>.ty n
 |_,_,.cls c,_=>.cls c
 |_,_,.tup e r,h=>.tup e (ay.K5 r (by simpa[PV.pure]using h))
 |_,_,.lst e r,h=>.lst e (ay.K5 r (by simpa[PV.pure]using h))
 |_,_,.O7 e r,h=>.O7 e (ay.K5 r (by simpa[PV.pure]using h))
 |_,_,.dct e k r,h=>.dct e k (ay.K5 r (by simpa[PV.pure,fm]using h))
 |_,_,.ins c e d k r,h=>.ins c e d k (ay.K5 r (by simpa[PV.pure,oi]using h))
 |_,_,.ref e,h=>by simp[PV.pure]at h
 |_,_,.exc c e,_=>.exc c e
 |_,_,.Og c e d r,h=>.Og c e d (aH.K5 r (by simpa[PV.pure]using h))
theorem ay.K5:∀{p:List PV}{v:List V},ay K T F m p v→ai p=true→ay K T F m' p v
 |_,_,.nil,_=>.nil
 |_,_,.cons r t,h=>by simp only[ai,acf]at h;exact .cons (aH.K5 r h.1) (ay.K5 t h.2)
end
theorem ay.length:∀{p:List PV}{v:List V},ay K T F m p v→p.length=v.length
 |_,_,.nil=>rfl
 |_,_,.cons _ t=>by simp[ay.length t]
theorem ay.get:∀{ps:List PV}{vs:List V}{i:Nat}{p:PV},ay K T F m ps vs→ps[i]? =some p→∃v,vs[i]? =some v∧aH K T F m p v
 |_,_,_,_,.nil,e=>by simp at e
 |_,_,0,_,.cons r _,e=>by simp at e;subst e;exact⟨_,rfl,r⟩
 |_,_,i+1,p,.cons _ t,e=>by obtain⟨u,h1,h2⟩:=ay.get (i:=i) (p:=p) t (by simpa using e);exact⟨u,by simpa using h1,h2⟩
theorem ay.append:∀{ps qs:List PV}{vs ws:List V},ay K T F m ps vs→ay K T F m qs ws→ay K T F m (ps++qs) (vs++ws)
 |_,_,_,_,.nil,s=>s
 |_,_,_,_,.cons r t,s=>.cons r (ay.append t s)
theorem ay.take:∀{ps:List PV}{vs:List V}(n:Nat),ay K T F m ps vs→ay K T F m (ps.take n) (vs.take n)
 |_,_,0,_=>.nil
 |_,_,_+1,.nil=>.nil
 |_,_,n+1,.cons r t=>.cons r (ay.take n t)
theorem ay.drop:∀{ps:List PV}{vs:List V}(n:Nat),ay K T F m ps vs→ay K T F m (ps.drop n) (vs.drop n)
 |_,_,0,r=>r
 |_,_,_+1,.nil=>.nil
 |_,_,n+1,.cons _ t=>ay.drop n t
theorem ay.set{x:PV}{u:V}(r:aH K T F m x u):∀{xs:List PV}{us:List V}(i:Nat),ay K T F m xs us→ay K T F m (xs.set i x) (us.set i u)
 |_,_,_,.nil=>.nil
 |_,_,0,.cons _ t=>.cons r t
 |_,_,i+1,.cons q t=>.cons q (ay.set r i t)
end
inductive PO where
 |lst (xs:List PV)|dct (kvs:List (PK×PV))|K3 (v:PV)
section
variable(K:W.Frag)(T:Tab)(F:Hp)(m:List Addr)
def Ce(H:Hp)(a:Addr):PO→Prop
 |.lst ps=>F a=none∧∃vs,H a=some (.lst vs)∧ay K T F m ps vs
 |.dct kps=>F a=none∧∃kvs,H a=some (.dK kvs)∧kvs.map (·.1)=kps.map (fun p=>tk p.1)∧ay K T F m (kps.map (·.2)) (kvs.map (·.2))
 |.K3 p=>aH K T F m p (.ref a)∧p.pure=true∧∃o,F a=some o
structure RelH(h:List PO)(H:Hp):Prop where
 same:di F H
 len:h.length=m.length
 obj:∀(i:Nat)(o:PO)(a:Addr),h[i]? =some o→m[i]? =some a→Ce K T F m H a o
 nd:m.Nodup
def kX(ρ:List (Option PV))(σ:St):Prop:=ρ.length=σ.length∧∀(i:Nat)(p:PV),ρ[i]? =some (some p)→∃v,σ[i]? =some (some v)∧aH K T F m p v
structure gP(ρ:List (Option PV))(h:List PO)(σ:St)(H:Hp):Prop extends RelH K T F m h H where
 env:kX K T F m ρ σ
end
structure bp(F:Hp)(m:List Addr)(H F':Hp)(m':List Addr)(H':Hp):Prop where
 fz:di F F'
 pre:∃t,m'=m++t
 fr:∀b o,H b=some o→b∉m→H' b=some o
 dom:∀b o,H b=some o→∃o',H' b=some o'
 new:∀(i:Nat)(a:Addr),m.length≤i→m'[i]? =some a→H a=none
 QZ:∀a o,F' a=some o→F a=some o∨H a=none∨a∈m
section
variable{K:W.Frag}{T:Tab}{F F1 F2 H H1 H2:Hp}{m m1 m2:List Addr}
theorem bp.refl:bp F m H F m H:=⟨di.refl _,⟨[],by simp⟩,fun _ _ h _=>h,fun _ o h=>⟨o,h⟩,fun i a h e=>(by rw[List.getElem?_eq_none h]at e;cases e),fun _ _ h=>.inl h⟩
theorem bp.idx(s:bp F m H F1 m1 H1):∀(i:Nat)(a:Addr),m[i]? =some a→m1[i]? =some a:=fun i a e=>by
 obtain⟨t,rfl⟩:=s.pre
 have hi:i<m.length:=by
  rcases Nat.lt_or_ge i m.length with h|h
  ·exact h
  ·rw[List.getElem?_eq_none h]at e;cases e
 rw[List.getElem?_append_left hi];exact e
theorem bp.mem(s:bp F m H F1 m1 H1){a:Addr}(h:a∈m1):a∈m∨H a=none:=by
 obtain⟨i,e⟩:=List.mem_iff_getElem?.mp h;obtain⟨t,rfl⟩:=s.pre;rcases Nat.lt_or_ge i m.length with hi|hi
 ·rw[List.getElem?_append_left hi]at e;exact .inl (List.mem_of_getElem? e)
 ·exact .inr (s.new i a hi e)
theorem bp.back(s:bp F m H F1 m1 H1){a:Addr}(h:H1 a=none):H a=none:=by
 cases q:H a with
 |none=>rfl
 |some o=>obtain⟨o',e⟩:=s.dom a o q;rw[h]at e;cases e
theorem bp.trans(s:bp F m H F1 m1 H1)(t:bp F1 m1 H1 F2 m2 H2):bp F m H F2 m2 H2 where
 fz:=s.fz.trans t.fz
 pre:=by obtain⟨x,rfl⟩:=s.pre;obtain⟨y,rfl⟩:=t.pre;exact⟨x++y,by simp⟩
 fr:=fun b o h n=>t.fr b o (s.fr b o h n) fun z=>by
  rcases s.mem z with q|q
  ·exact n q
  ·rw[h]at q;cases q
 dom:=fun b o h=>by obtain⟨o',e⟩:=s.dom b o h;exact t.dom b o' e
 new:=fun i a hi e=>by
  obtain⟨x,rfl⟩:=s.pre;rcases Nat.lt_or_ge i (m++x).length with h|h
  ·obtain⟨y,rfl⟩:=t.pre;rw[List.getElem?_append_left h]at e;exact s.new i a hi e
  ·exact s.back (t.new i a h e)
 QZ:=fun a o h=>by
  rcases t.QZ a o h with q|q|q
  ·exact s.QZ a o q
  ·exact .inr (.inl (s.back q))
  ·rcases s.mem q with z|z
   ·exact .inr (.inr z)
   ·exact .inr (.inl z)
theorem bp.rep(s:bp F m H F1 m1 H1){p:PV}{v:V}(r:aH K T F m p v):aH K T F1 m1 p v:=r.mono s.fz s.idx
theorem bp.reps(s:bp F m H F1 m1 H1){p:List PV}{v:List V}(r:ay K T F m p v):ay K T F1 m1 p v:=r.mono s.fz s.idx
theorem bp.env(s:bp F m H F1 m1 H1){ρ:List (Option PV)}{σ:St}(r:kX K T F m ρ σ):kX K T F1 m1 ρ σ:=⟨r.1,fun i p e=>by obtain⟨v,h1,h2⟩:=r.2 i p e;exact⟨v,h1,s.rep h2⟩⟩
theorem bp.lay{h:List PO}{p:Addr}{o:HO}(R:RelH K T F m h H)(hp:H p=none):bp F m H (upd F p o) m (upd H p o)∧RelH K T (upd F p o) m h (upd H p o):=by
 have hF:F p=none:=R.same.free hp;have sF:di F (upd F p o):=fR hF o;refine⟨⟨sF,⟨[],by simp⟩,fun b u e _=>by rw[ak (aD e hp)];exact e,fun b u e=>⟨u,by rw[ak (aD e hp)];exact e⟩,fun i a hi e=>(by rw[List.getElem?_eq_none hi]at e;cases e),fun a u e=>?_⟩,?_⟩
 ·by_cases ha:a=p
  ·subst ha;exact .inr (.inl hp)
  ·rw[ak ha]at e;exact .inl e
 ·refine⟨fun b u e=>?_,R.len,fun i ob a h1 h2=>?_,R.nd⟩
  ·by_cases ha:b=p
   ·subst ha;rw[aJ]at e ⊢;exact e
   ·rw[ak ha]at e ⊢;exact R.same b u e
  ·have q:=R.obj i ob a h1 h2;have mono:∀{ps vs},ay K T F m ps vs→ay K T (upd F p o) m ps vs:=fun r=>r.mono sF fun _ _ h=>h
   cases ob with
   |lst ps=>obtain⟨f,vs,e,r⟩:=q;have ne:a≠p:=aD e hp;exact⟨by rw[ak ne];exact f,vs,by rw[ak ne];exact e,mono r⟩
   |dct kps=>obtain⟨f,kvs,e,k,r⟩:=q;have ne:a≠p:=aD e hp;exact⟨by rw[ak ne];exact f,kvs,by rw[ak ne];exact e,k,mono r⟩
   |K3 pv=>obtain⟨r,pu,u,e⟩:=q;exact⟨r.mono sF fun _ _ h=>h,pu,u,sF _ _ e⟩
end
inductive Res(α:Type) where
 |ok (a:α) (h:List PO)|exc (e:PV) (h:List PO)|bad
noncomputable def Res.bind{α β:Type}(r:Res α)(k:α→List PO→Res β):Res β:=match r with
 |.ok a h=>k a h
 |.exc e h=>.exc e h
 |.bad=>.bad
@[simp] theorem Res.Mj{α β:Type}(a:α)(h:List PO)(k:α→List PO→Res β):(Res.ok a h).bind k=k a h:=rfl
@[simp] theorem Res.N5{α β:Type}(a:PV)(h:List PO)(k:α→List PO→Res β):(Res.exc a h).bind k=.exc a h:=rfl
@[simp] theorem Res.TV{α β:Type}(k:α→List PO→Res β):(Res.bad).bind k=.bad:=rfl
def kW(K:W.Frag)(T:Tab)(F:Hp)(m:List Addr)(e:PV)(cls:Value)(dx:Option Addr):Prop:=match e with
 |.cls C=>∃Ca,T C=some Ca∧cls=.ref Ca∧dx=none
 |.Og C v=>∃Ca d y,T C=some Ca∧cls=.ref Ca∧dx=some d∧F d=some (Ri d "at" y)∧aH K T F m v y
 |_=>False
theorem kW.K5{K:W.Frag}{T:Tab}{F:Hp}{m m':List Addr}{e:PV}{cls:Value}{dx:Option Addr}(h:kW K T F m e cls dx)(p:e.pure=true):kW K T F m' e cls dx:=by
 unfold kW at h ⊢
 split at h
 ·exact h
 ·obtain⟨Ca,d,y,h1,h2,h3,h4,h5⟩:=h;exact⟨Ca,d,y,h1,h2,h3,h4,h5.K5 p⟩
 ·exact h.elim
def aG{α β:Type}(K:W.Frag)(T:Tab)(R:Hp→List Addr→α→β→Prop)(F:Hp)(m:List Addr)(H:Hp)(Q:β→Hp→Prop)(Ew:XK):Res α→Prop
 |.ok a h'=>∀F' m' H' x,bp F m H F' m' H'→RelH K T F' m' h' H'→R F' m' a x→Q x H'
 |.exc e h'=>∀F' m' H' cls dx,bp F m H F' m' H'→RelH K T F' m' h' H'→kW K T F' m' e cls dx→Ew cls dx H'
 |.bad=>False
section
variable{K:W.Frag}{T:Tab}{F F1 H H1:Hp}{m m1:List Addr}{α β γ δ:Type}{R:Hp→List Addr→α→β→Prop}{R':Hp→List Addr→γ→δ→Prop}{Ew:XK}
theorem aG.step{Q:β→Hp→Prop}{res:Res α}(s:bp F m H F1 m1 H1)(p:aG K T R F m H Q Ew res):aG K T R F1 m1 H1 Q Ew res:=by
 cases res with
 |ok a h=>exact fun F' m' H' x t=>p F' m' H' x (s.trans t)
 |exc e h=>exact fun F' m' H' c d t=>p F' m' H' c d (s.trans t)
 |bad=>exact p
theorem aG.bind{Q:δ→Hp→Prop}{res:Res α}{k:α→List PO→Res γ}(p:aG K T R' F m H Q Ew (res.bind k)):
  aG K T R F m H (fun x H1=>∃F1 m1 h1 a,bp F m H F1 m1 H1∧RelH K T F1 m1 h1 H1∧R F1 m1 a x∧aG K T R' F1 m1 H1 Q Ew (k a h1)) Ew res:=by
 cases res with
 |ok a h=>exact fun F' m' H' x s r q=>⟨F',m',h,a,s,r,q,aG.step s p⟩
 |exc e h=>exact p
 |bad=>exact p
theorem aG.mono{Q Q':β→Hp→Prop}{res:Res α}(p:aG K T R F m H Q Ew res)(hq:∀x H',Q x H'→Q' x H'):aG K T R F m H Q' Ew res:=by
 cases res with
 |ok a h=>exact fun F' m' H' x s r q=>hq _ _ (p F' m' H' x s r q)
 |exc e h=>exact p
 |bad=>exact p
theorem aG.here{Q:β→Hp→Prop}{a:α}{h:List PO}{x:β}(p:aG K T R F m H Q Ew (.ok a h))(R0:RelH K T F m h H)(r:R F m a x):Q x H:=p F m H x .refl R0 r
end
abbrev Ev:=List (Option PV)
abbrev Ex:=Ev→List PO→Res PV
abbrev Tx:=Ev→List PO→Res Bool
abbrev Ax:=Ev→List PO→Res (List PV)
def RB:Hp→List Addr→Bool→Bool→Prop:=fun _ _ a b=>a=b
section
variable(X:Cx)(T:Tab)(Ew:XK)
noncomputable def wE(f:Ex):TE:=fun σ H Q=>∃F m ρ h,gP X.K T F m ρ h σ H∧aG X.K T (aH X.K T) F m H Q Ew (f ρ h)
noncomputable def wT(f:Tx):TT:=fun σ H Q=>∃F m ρ h,gP X.K T F m ρ h σ H∧aG X.K T RB F m H Q Ew (f ρ h)
noncomputable def wA(f:Ax):TA:=fun σ H Q=>∃F m ρ h,gP X.K T F m ρ h σ H∧aG X.K T (ay X.K T) F m H Q Ew (f ρ h)
@[irreducible] def RE(e:Expr)(f:Ex):Prop:=PE X e (wE X T Ew f)
@[irreducible] def RT(e:Expr)(f:Tx):Prop:=PT X e (wT X T Ew f)
@[irreducible] def RA(es:List Expr)(f:Ax):Prop:=PA X es (wA X T Ew f)
end
theorem PE.imp{X:Cx}{e:Expr}{t t':TE}(h:PE X e t)(i:∀ σ H Q,t' σ H Q→t σ H Q):PE X e t':=fun pins s σ H Q I q=>h pins s σ H Q I (i _ _ _ q)
theorem PT.imp{X:Cx}{e:Expr}{t t':TT}(h:PT X e t)(i:∀ σ H Q,t' σ H Q→t σ H Q):PT X e t':=fun pins s σ H Q I q=>h pins s σ H Q I (i _ _ _ q)
theorem PW.imp{X:Cx}{e:Expr}{t t':TT}(h:PW X e t)(i:∀ σ H Q,t' σ H Q→t σ H Q):PW X e t':=fun w pins s σ H Q I q=>h w pins s σ H Q I (i _ _ _ q)
theorem PA.imp{X:Cx}{es:List Expr}{t t':TA}(h:PA X es t)(i:∀ σ H Q,t' σ H Q→t σ H Q):PA X es t':=fun pos pins s σ H Q I q=>h pos pins s σ H Q I (i _ _ _ q)
theorem PS.imp{X:Cx}{e:Stmt}{t t':TS}(h:PS X e t)(i:∀D σ H,t' D σ H→t D σ H):PS X e t':=fun pins s σ H D I q=>h pins s σ H D I (i _ _ _ q)
theorem Q0.imp{X:Cx}{e:List Stmt}{t t':TS}(h:Q0 X e t)(i:∀D σ H,t' D σ H→t D σ H):Q0 X e t':=fun pins s σ H D I q=>h pins s σ H D I (i _ _ _ q)
noncomputable def aj(h:List PO):PV→PV
 |.ref i=>match h[i]? with
  |some (.K3 q)=>q
  |_=>.ref i
 |p=>p
theorem RelH.Rt{K:W.Frag}{T:Tab}{F H:Hp}{m:List Addr}{h:List PO}(R:RelH K T F m h H){p:PV}{v:V}(r:aH K T F m p v):aH K T F m (aj h p) v:=by
 cases r with
 |@ref i a e=>
  show aH K T F m (match h[i]? with|some (.K3 q)=>q|_=>.ref i) (.ref a)
  cases q:h[i]? with
  |none=>exact .ref e
  |some o=>
   cases o with
   |K3 p=>exact(R.obj i _ a q e).1
   |lst _=>exact .ref e
   |dct _=>exact .ref e
 |non=>exact .non
 |bl b=>exact .bl b
 |int b=>exact .int b
 |str b=>exact .str b
 |ty b=>exact .ty b
 |cls c=>exact .cls c
 |tup e r=>exact .tup e r
 |lst e r=>exact .lst e r
 |O7 e r=>exact .O7 e r
 |dct e k r=>exact .dct e k r
 |ins c e d k r=>exact .ins c e d k r
 |exc c e=>exact .exc c e
 |Og c e d r=>exact .Og c e d r
noncomputable def ag(i:Nat):Ex:=fun ρ h=>match ρ[i]? with
 |some (some p)=>.ok (aj h p) h
 |_=>.bad
noncomputable def cK(v:PV):Ex:=fun _ h=>.ok v h
def c1(g:PV→List PO→Res PV)(a:Ex):Ex:=fun ρ h=>(a ρ h).bind g
def c2(g:PV→PV→List PO→Res PV)(a b:Ex):Ex:=fun ρ h=>(a ρ h).bind fun x h1=>(b ρ h1).bind fun y h2=>g x y h2
def cN(g:List PV→List PO→Res PV)(a:Ax):Ex:=fun ρ h=>(a ρ h).bind g
noncomputable def ah:Ax:=fun _ h=>.ok [] h
def af(a:Ex)(r:Ax):Ax:=fun ρ h=>(a ρ h).bind fun x h1=>(r ρ h1).bind fun xs h2=>.ok (x::xs) h2
section
variable{X:Cx}{T:Tab}{Ew:XK}
theorem Ek{e:Expr}{t:TE}{f:Ex}(h:PE X e t)(i:∀ σ H Q F m ρ h,gP X.K T F m ρ h σ H→aG X.K T (aH X.K T) F m H Q Ew (f ρ h)→t σ H Q):RE X T Ew e f:=by with_unfolding_all exact(
 PE.imp h (by rintro σ H Q ⟨F,m,ρ,h,R,p⟩;exact i σ H Q F m ρ h R p))
theorem rv(i:Nat){x:Str}{pos:Pos}(hN:X.N[i]? =some x:=by rfl)(hv:Xd X.env.scope x:=by first|exact Or.inl rfl|exact Or.inr (Or.inl rfl)|exact Or.inr (Or.inr rfl))(hd:nD0 x:=by decide)
  (Qw:(x==("__classdict__":Str))=false:=by decide):RE X T Ew (.Name x pos) (ag i):=by with_unfolding_all
 refine Ek (vB hN hv hd Qw) fun σ H Q F m ρ h R p=>?_;unfold ag at p
 cases q:ρ[i]? with
 |none=>rw[q]at p;exact p.elim
 |some o=>
  cases o with
  |none=>rw[q]at p;exact p.elim
  |some pv=>rw[q]at p;obtain⟨v,h1,h2⟩:=R.env.2 i pv q;exact⟨v,h1,aG.here p R.toRelH (R.Rt h2)⟩
theorem fT{e:Expr}{v:V}{p:PV}(h:PE X e (tC v))(r:∀F m,aH X.K T F m p v):RE X T Ew e (cK p):=by with_unfolding_all exact(
 Ek h fun σ H Q F m ρ h R q=>aG.here q R.toRelH (r F m))
theorem aQ{i:Int}{j pos}:RE X T Ew (.Constant (.int i) j pos) (cK (.int i)):=by with_unfolding_all exact(
  fT Gc fun _ _=>.int i)
theorem El{b:Bool}{j pos}:RE X T Ew (.Constant (.bool b) j pos) (cK (.bl b)):=by with_unfolding_all exact(
  fT HW fun _ _=>.bl b)
theorem vv{j pos}:RE X T Ew (.Constant .none j pos) (cK .non):=by with_unfolding_all exact(
  fT Gb fun _ _=>.non)
theorem FC{x:Str}(l:List Nat){j pos}(e:x=S l:=by rfl):RE X T Ew (.Constant (.str x) j pos) (cK (.str l)):=by with_unfolding_all exact(
  fT FZ fun _ _=>by rw[e];exact .str l)
def EU(K:W.Frag)(T:Tab)(r:V→Hp→VK→Prop)(g:PV→List PO→Res PV):Prop:=
 ∀F m h H x p Q Ew,RelH K T F m h H→aH K T F m p x→aG K T (aH K T) F m H Q Ew (g p h)→r x H Q
def eV(K:W.Frag)(T:Tab)(r:R2)(g:PV→PV→List PO→Res PV):Prop:=
 ∀F m h H x y p q Q Ew,RelH K T F m h H→aH K T F m p x→aH K T F m q y→aG K T (aH K T) F m H Q Ew (g p q h)→r x y H Q
def pf(K:W.Frag)(T:Tab)(r:List V→Hp→VK→Prop)(g:List PV→List PO→Res PV):Prop:=
 ∀F m h H xs ps Q Ew,RelH K T F m h H→ay K T F m ps xs→aG K T (aH K T) F m H Q Ew (g ps h)→r xs H Q
theorem gP.of{K:W.Frag}{F F1 H H1:Hp}{m m1:List Addr}{ρ:Ev}{h h1:List PO}{σ:St}(R:gP K T F m ρ h σ H)(s:bp F m H F1 m1 H1)(R1:RelH K T F1 m1 h1 H1):gP K T F1 m1 ρ h1 σ H1:=⟨R1,s.env R.env⟩
theorem w1{r:V→Hp→VK→Prop}{g:PV→List PO→Res PV}{fa:Ex}(P:EU X.K T r g){σ:St}{H:Hp}{Q:VK}(w:wE X T Ew (c1 g fa) σ H Q):tUn r (wE X T Ew fa) σ H Q:=by obtain⟨F,m,ρ,h,R,p⟩:=w;exact⟨F,m,ρ,h,R,(aG.bind p).mono (by rintro x H1 ⟨F1,m1,h1,a,s,R1,ra,p1⟩;exact P F1 m1 h1 H1 x a Q Ew R1 ra p1)⟩
theorem w2{r:R2}{g:PV→PV→List PO→Res PV}{fa fb:Ex}(P:eV X.K T r g){σ:St}{H:Hp}{Q:VK}(w:wE X T Ew (c2 g fa fb) σ H Q):Wi r (wE X T Ew fa) (wE X T Ew fb) σ H Q:=by obtain⟨F,m,ρ,h,R,p⟩:=w;refine⟨F,m,ρ,h,R,(aG.bind p).mono ?_⟩;rintro x H1 ⟨F1,m1,h1,a,s,R1,ra,p1⟩;refine⟨F1,m1,ρ,h1,R.of s R1,(aG.bind p1).mono ?_⟩;rintro y H2 ⟨F2,m2,h2,b,s2,R2,rb,p2⟩;exact P F2 m2 h2 H2 x y a b Q Ew R2 (s2.rep ra) rb p2
theorem wN{r:List V→Hp→VK→Prop}{g:List PV→List PO→Res PV}{fa:Ax}(P:pf X.K T r g){σ:St}{H:Hp}{Q:VK}(w:wE X T Ew (cN g fa) σ H Q):Ym r (wA X T Ew fa) σ H Q:=by obtain⟨F,m,ρ,h,R,p⟩:=w;exact⟨F,m,ρ,h,R,(aG.bind p).mono (by rintro x H1 ⟨F1,m1,h1,a,s,R1,ra,p1⟩;exact P F1 m1 h1 H1 x a Q Ew R1 ra p1)⟩
theorem mq:RA X T Ew [] ah:=by with_unfolding_all exact(
  PA.imp vD (by rintro σ H Q ⟨F,m,ρ,h,R,p⟩;exact aG.here p R.toRelH .nil))
theorem aC{e:Expr}{es:List Expr}{f:Ex}{fs:Ax}(ha:RE X T Ew e f)(hr:RA X T Ew es fs)(hs:sE0 X e es:=by rfl):RA X T Ew (e::es) (af f fs):=by with_unfolding_all
 refine PA.imp (rC ha hr hs) ?_;rintro σ H Q ⟨F,m,ρ,h,R,p⟩;refine⟨F,m,ρ,h,R,(aG.bind p).mono ?_⟩;rintro x H1 ⟨F1,m1,h1,a,s,R1,ra,p1⟩;refine⟨F1,m1,ρ,h1,R.of s R1,(aG.bind p1).mono ?_⟩;rintro y H2 ⟨F2,m2,h2,b,s2,R2,rb,p2⟩;exact aG.here p2 R2 (.cons (s2.rep ra) rb)
theorem oa{op:Operator}{r:R2}{g:PV→PV→List PO→Res PV}{a b:Expr}{fa fb:Ex}{pos:Pos}(ho:Nq X (binaryOp op) r)(P:eV X.K T r g)(ha:RE X T Ew a fa)(hb:RE X T Ew b fb):RE X T Ew (.BinOp a op b pos) (c2 g fa fb):=by with_unfolding_all exact(
 PE.imp (HS ho ha hb) fun σ H Q w=>w2 P w)
theorem Hy{op:UnaryOp}{r:V→Hp→VK→Prop}{g:PV→List PO→Res PV}{a:Expr}{fa:Ex}{pos:Pos}(ho:Yc X (unaryOp op) r)(P:EU X.K T r g)(ha:RE X T Ew a fa):RE X T Ew (.UnaryOp op a pos) (c1 g fa):=by with_unfolding_all exact(
 PE.imp (HQ ho ha) fun σ H Q w=>w1 P w)
theorem kI{op:CmpOp}{r:R2}{g:PV→PV→List PO→Res PV}{a b:Expr}{fa fb:Ex}{pos:Pos}(ho:Nq X (compareOp op) r)(P:eV X.K T r g)(ha:RE X T Ew a fa)(hb:RE X T Ew b fb)(hm:behindInMarks op b=false):RE X T Ew (.Compare a [op] [b] pos) (c2 g fa fb):=by with_unfolding_all exact(
 PE.imp (De ho ha hb hm) fun σ H Q w=>w2 P w)
end
noncomputable def Rp(h:List PO):PV→Option (List PV)
 |.lst xs=>some xs
 |.ref i=>match h[i]? with
  |some (.lst xs)=>some xs
  |_=>none
 |_=>none
def Ro(h:List PO):PV→Option (List PV)
 |.O7 xs=>some xs
 |p=>Rp h p
noncomputable def Vd(h:List PO):PV→Option (List (PK×PV))
 |.dct kvs=>some kvs
 |.ref i=>match h[i]? with
  |some (.dct kvs)=>some kvs
  |_=>none
 |_=>none
def T6(h:List PO):PV→Option (List PV)
 |.tup xs=>some xs
 |p=>Ro h p
section
variable{K:W.Frag}{T:Tab}{F H:Hp}{m:List Addr}{h:List PO}{p:PV}{x:V}{ps:List PV}
theorem jS(R:RelH K T F m h H)(r:aH K T F m p x)(e:Rp h p=some ps):∃a vs,x=.ref a∧H a=some (.lst vs)∧ay K T F m ps vs:=by
 cases r with
 |lst ef rr=>simp only[Rp,Option.some.injEq]at e;subst e;exact⟨_,_,rfl,R.same _ _ ef,rr⟩
 |@ref i a em=>
  have e:(match h[i]? with|some (.lst xs)=>some xs|_=>none)=some ps:=e
  cases q:h[i]? with
  |none=>rw[q]at e;cases e
  |some o=>
   rw[q]at e
   cases o with
   |lst xs=>simp only[Option.some.injEq]at e;subst e;obtain⟨_,vs,e1,rr⟩:=R.obj i _ a q em;exact⟨a,vs,rfl,e1,rr⟩
   |dct _=>cases e
   |K3 _=>cases e
 |_=>simp[Rp]at e
theorem fL(R:RelH K T F m h H)(r:aH K T F m p x)(e:Ro h p=some ps):∃a vs,x=.ref a∧M_ K H a vs∧ay K T F m ps vs:=by
 by_cases hg:∃xs,p= .O7 xs
 ·obtain⟨xs,rfl⟩:=hg;simp only[Ro,Option.some.injEq]at e;subst e
  cases r with
  |O7 ef rr=>exact⟨_,_,rfl,R.same.seq ef,rr⟩
 ·have e':Rp h p=some ps:=by
   unfold Ro at e
   split at e
   ·exact absurd ⟨_,rfl⟩ hg
   ·exact e
  obtain⟨a,vs,e1,e2,rr⟩:=jS R r e';exact⟨a,vs,e1,M_.of e2,rr⟩
theorem fF(R:RelH K T F m h H)(r:aH K T F m (.tup ps) x):∃a vs,x=.ref a∧NP K H a vs∧ay K T F m ps vs:=by
 cases r with
 |tup ef rr=>exact⟨_,_,rfl,R.same.Qs ef,rr⟩
theorem nq(R:RelH K T F m h H)(r:aH K T F m p x)(e:T6 h p=some ps):∃a vs,x=.ref a∧(M_ K H a vs∨NP K H a vs)∧ay K T F m ps vs:=by
 by_cases hg:∃xs,p=.tup xs
 ·obtain⟨xs,rfl⟩:=hg;simp only[T6,Option.some.injEq]at e;subst e;obtain⟨a,vs,e1,e2,rr⟩:=fF R r;exact⟨a,vs,e1,.inr e2,rr⟩
 ·have e':Ro h p=some ps:=by
   unfold T6 at e
   split at e
   ·exact absurd ⟨_,rfl⟩ hg
   ·exact e
  obtain⟨a,vs,e1,e2,rr⟩:=fL R r e';exact⟨a,vs,e1,.inl e2,rr⟩
theorem lT{kps:List (PK×PV)}(R:RelH K T F m h H)(r:aH K T F m p x)(e:Vd h p=some kps):∃a kvs,x=.ref a∧Rd H a (.dK kvs)∧kvs.map (·.1)=kps.map (fun p=>tk p.1)∧ay K T F m (kps.map (·.2)) (kvs.map (·.2)):=by
 cases r with
 |dct ef k rr=>simp only[Vd,Option.some.injEq]at e;subst e;exact⟨_,_,rfl,.inr ⟨_,R.same _ _ ef⟩,k,rr⟩
 |@ref i a em=>
  have e:(match h[i]? with|some (.dct xs)=>some xs|_=>none)=some kps:=e
  cases q:h[i]? with
  |none=>rw[q]at e;cases e
  |some o=>
   rw[q]at e
   cases o with
   |dct xs=>simp only[Option.some.injEq]at e;subst e;obtain⟨_,vs,e1,k,rr⟩:=R.obj i _ a q em;exact⟨a,vs,rfl,.inl e1,k,rr⟩
   |lst _=>cases e
   |K3 _=>cases e
 |_=>simp[Vd]at e
theorem ay.at{ps:List PV}{vs:List V}{i:Int}{p:PV}(r:ay K T F m ps vs)(e:Np ps i=some p):∃v,Np vs i=some v∧aH K T F m p v:=by
 unfold Np at e ⊢;rw[← r.length]
 cases q:RD ps.length i with
 |none=>rw[q]at e;cases e
 |some j=>rw[q]at e;simp only[Option.bind_some]at e ⊢;exact r.get e
end
theorem Nq.or{X:Cx}{f:Value→Value→Sem Value}{r r':R2}(h:Nq X f r)(h':Nq X f r'):Nq X f (fun x y H Q=>r x y H Q∨r' x y H Q):=by
 intro pins s σ H x y v u Q I rx ry q;rcases q with q|q
 ·exact h pins s σ H x y v u Q I rx ry q
 ·exact h' pins s σ H x y v u Q I rx ry q
theorem dZ.or{X:Cx}{f:Value}{r r':List V→Hp→VK→Prop}(h:dZ X f r)(h':dZ X f r'):dZ X f (fun x H Q=>r x H Q∨r' x H Q):=by
 intro pins s σ H x v Q I rx q;rcases q with q|q
 ·exact h pins s σ H x v Q I rx q
 ·exact h' pins s σ H x v Q I rx q
section
variable{K:W.Frag}{T:Tab}{F H:Hp}{m:List Addr}{h:List PO}{Q:VK}{Ew:XK}
theorem aV{p:PV}{x:V}(w:aG K T (aH K T) F m H Q Ew (.ok p h))(R:RelH K T F m h H)(r:aH K T F m p x):Q x H:=w F m H x .refl R r
theorem fU{ps:List PV}{vs:List V}(w:aG K T (aH K T) F m H Q Ew (.ok (.lst ps) h))(R:RelH K T F m h H)(r:ay K T F m ps vs):∀p,H p=none→Q (.ref p) (upd H p (.lst vs)):=fun p hp=>by obtain⟨s,R'⟩:=bp.lay (o:=.lst vs) R hp;exact w _ m _ _ s R' (.lst aJ (s.reps r))
theorem lH{ps:List PV}{vs:List V}(w:aG K T (aH K T) F m H Q Ew (.ok (.tup ps) h))(R:RelH K T F m h H)(r:ay K T F m ps vs):∀p,H p=none→Q (.ref p) (upd H p (.tup vs)):=fun p hp=>by obtain⟨s,R'⟩:=bp.lay (o:=.tup vs) R hp;exact w _ m _ _ s R' (.tup (NP.of aJ) (s.reps r))
theorem ot{ps:List PV}{vs:List V}(w:aG K T (aH K T) F m H Q Ew (.ok (.ref h.length) (h++ [.lst ps])))(R:RelH K T F m h H)(r:ay K T F m ps vs):∀p,H p=none→Q (.ref p) (upd H p (.lst vs)):=fun p hp=>by
 have hF:F p=none:=R.same.free hp
 have hm:p∉m:=fun z=>by
  obtain⟨i,e⟩:=List.mem_iff_getElem?.mp z
  have hi:i<h.length:=by
   rw[R.len];rcases Nat.lt_or_ge i m.length with q|q
   ·exact q
   ·rw[List.getElem?_eq_none q]at e;cases e
  have e2:h[i]? =some h[i]:=List.getElem?_eq_getElem hi;have q:=R.obj i _ p e2 e
  cases ho:h[i]with
  |lst xs=>rw[ho]at q;obtain⟨_,vs,z,_⟩:=q;rw[hp]at z;cases z
  |dct xs=>rw[ho]at q;obtain⟨_,vs,z,_⟩:=q;rw[hp]at z;cases z
  |K3 xs=>rw[ho]at q;obtain⟨_,_,o,z⟩:=q;rw[hF]at z;cases z
 have st:bp F m H F (m++ [p]) (upd H p (.lst vs)):=by
  refine⟨di.refl _,⟨[p],rfl⟩,fun b o e _=>by rw[ak (aD e hp)];exact e,fun b o e=>⟨o,by rw[ak (aD e hp)];exact e⟩,fun i a hi e=>?_,fun a o e=>.inl e⟩;rw[List.getElem?_append_right hi]at e
  have:a=p:=by
   cases q:i - m.length with
   |zero=>rw[q]at e;simpa using e.symm
   |succ k=>rw[q]at e;simp at e
  rw[this];exact hp
 refine w F (m++ [p]) _ _ st ⟨fun b o e=>by rw[ak (aD (R.same b o e) hp)];exact R.same b o e,by simp[R.len],fun i o a e1 e2=>?_,?_⟩ (.ref (by rw[R.len];simp))
 ·rcases Nat.lt_or_ge i h.length with hi|hi
  ·rw[List.getElem?_append_left hi]at e1;rw[List.getElem?_append_left (by rw[← R.len];exact hi)]at e2;have q:=R.obj i o a e1 e2
   cases o with
   |lst xs=>obtain⟨f,ws,z,rr⟩:=q;exact⟨f,ws,by rw[ak (aD z hp)];exact z,st.reps rr⟩
   |dct xs=>obtain⟨f,ws,z,k,rr⟩:=q;exact⟨f,ws,by rw[ak (aD z hp)];exact z,k,st.reps rr⟩
   |K3 q'=>obtain⟨r1,r2,r3⟩:=q;exact⟨st.rep r1,r2,r3⟩
  ·have Sy:i=h.length:=by
    rcases Nat.lt_or_ge i (h.length+1)with z|z
    ·omega
    ·rw[List.getElem?_eq_none (by simp;omega)]at e1;cases e1
   subst Sy;have e1':o=.lst ps:=by simpa using e1.symm
   subst e1';have e2':a=p:=by rw[R.len]at e2;simpa using e2.symm
   subst e2';exact⟨hF,vs,aJ,st.reps r⟩
 ·refine List.nodup_append.mpr ⟨R.nd,by simp,fun a ha b hb=>?_⟩;have:b=p:=by simpa using hb
  subst this
  rintro rfl
  exact hm ha
end
def vF(p q:PV)(h:List PO):Res PV:=match p,q with
 |.int i,.int j=>.ok (.int (i+j)) h
 |.int i,.bl b=>.ok (.int (i+b2i b)) h
 |.str a,.str b=>if a.length+b.length≤sizeLine then .ok (.str (a++b)) h else .bad
 |.tup a,.tup b=>if a.isEmpty=false∧a.length+b.length≤sizeLine then .ok (.tup (a++b)) h else .bad
 |p,q=>match Rp h p,Rp h q with
  |some a,some b=>if a.length+b.length≤sizeLine then .ok (.lst (a++b)) h else .bad
  |_,_=>.bad
def wW(K:W.Frag):R2:=fun x y H Q=>(T8 fun i j=>V.int (i+j)) x y H Q∨(∃i k,x=.int i∧y=.bl k∧Q (.int (i+b2i k)) H)∨
 (∃i j,x=.str i∧y=.str j∧i.length+j.length≤sizeLine∧Q (.str (i++j)) H)∨Er K x y H Q∨HM x y H Q
theorem xm{X:Cx}:Nq X (binaryOp .Add) (wW X.K):=Nq.or Gj (Nq.or yA (Nq.or vI (Nq.or Dk Gi)))
theorem oY(a b:List Nat):S a++S b=S (a++b):=by show(⟨(S a).cps++(S b).cps⟩:Str)=_;simp[S]
theorem An{K:W.Frag}{T:Tab}:eV K T (wW K) vF:=by
 intro F m h H x y p q Q Ew R rp rq w;unfold vF at w
 split at w
 ·cases rp;cases rq;exact .inl ⟨_,_,rfl,rfl,aV w R (.int _)⟩
 ·cases rp;cases rq;exact .inr (.inl ⟨_,_,rfl,rfl,aV w R (.int _)⟩)
 ·rename_i a b
  cases rp;cases rq
  split at w
  ·rename_i hz;exact .inr (.inr (.inl ⟨_,_,rfl,rfl,by rw[fZ,fZ];exact hz,by rw[oY];exact aV w R (.str _)⟩))
  ·exact w.elim
 ·rename_i a b
  split at w
  ·rename_i hz;obtain⟨pa,va,rfl,ea,ra⟩:=fF R rp;obtain⟨pb,vb,rfl,eb,rb⟩:=fF R rq;refine .inr (.inr (.inr (.inl ⟨pa,pb,va,vb,rfl,rfl,ea,eb,fun z=>?_,by rw[← ra.length,← rb.length];exact hz.2,fun z=>?_,fun _=>lH w R (ra.append rb)⟩)))
   ·subst z;have:=ra.length
    cases a with
    |nil=>simp at hz
    |cons _ _=>simp at this
   ·subst z;have:=rb.length
    cases b with
    |nil=>rw[List.append_nil]at w;exact aV w R rp
    |cons _ _=>simp at this
  ·exact w.elim
 ·split at w
  ·rename_i a b e1 e2
   split at w
   ·rename_i hz;obtain⟨pa,va,rfl,ea,ra⟩:=jS R rp e1;obtain⟨pb,vb,rfl,eb,rb⟩:=jS R rq e2;exact .inr (.inr (.inr (.inr ⟨pa,pb,va,vb,rfl,rfl,ea,eb,by rw[← ra.length,← rb.length];exact hz,fU w R (ra.append rb)⟩)))
   ·exact w.elim
  ·exact w.elim
noncomputable def pI(C:Int→Int→Bool)(g:Int→Int→Int)(p q:PV)(h:List PO):Res PV:=match p,q with
 |.int i,.int j=>if C i j=true then .ok (.int (g i j)) h else .bad
 |_,_=>.bad
theorem Ao{K:W.Frag}{T:Tab}{C:Int→Int→Bool}{C':Int→Int→Prop}{g:Int→Int→Int}(hC:∀i j,C i j=true→C' i j):eV K T (rI C' fun i j=>.int (g i j)) (pI C g):=by
 intro F m h H x y p q Q Ew R rp rq w;unfold pI at w
 split at w
 ·cases rp;cases rq
  split at w
  ·rename_i hc;exact⟨_,_,rfl,rfl,hC _ _ hc,aV w R (.int _)⟩
  ·exact w.elim
 ·exact w.elim
noncomputable def kK(p q:PV)(h:List PO):Res PV:=match p,q with
 |.int i,.int j=>.ok (.int (i - j)) h
 |_,_=>.bad
theorem Aj{K:W.Frag}{T:Tab}:eV K T (T8 fun i j=>.int (i - j)) kK:=by
 intro F m h H x y p q Q Ew R rp rq w;unfold kK at w
 split at w
 ·cases rp;cases rq;exact⟨_,_,rfl,rfl,aV w R (.int _)⟩
 ·exact w.elim
abbrev bx:=pI (fun _ j=>decide (0<j)) (fun i j=>i % j)
abbrev dj:=pI (fun _ j=>decide (0<j∧j<1073741824)) (fun i j=>i / j)
noncomputable def QM(n:Nat)(i:Int):Bool:=Nat.blt i.natAbs n
theorem cT{n:Nat}{i:Int}:QM n i=true↔ -(n:Int)<i∧i<(n:Int):=by unfold QM;rw[Nat.blt_eq];omega
noncomputable def Ih(i j:Int):Bool:=decide (Builtin.Int.intBits i+Builtin.Int.intBits j≤134217728)
def hZ(i j:Int):Bool:=QM 18446744073709551616 i||(QM 18446744073709551616 j||Ih i j)
noncomputable def mS{α:Type}(xs:List α)(k:Int):List α:=(List.replicate k.toNat xs).flatten
def hR(p q:PV)(h:List PO):Res PV:=match p,q with
 |.int i,.int j=>if hZ i j=true then .ok (.int (i * j)) h else .bad
 |.str a,.int k=>if QM 1048576 k=true∧a.length * k.toNat≤1048576 then .ok (.str (mS a k)) h else .bad
 |p,.int k=>match Rp h p with
  |some xs=>if QM 9223372036854775808 k=true∧xs.length * k.toNat≤sizeLine then .ok (.lst (mS xs k)) h else .bad
  |_=>.bad
 |_,_=>.bad
theorem Di{X:Cx}:Nq X (binaryOp .Mult) (rI IntMulOk fun i j=>.int (i * j)):=Yt fun _ _ _ _ _ _ _ hc q=>mul_int q hc
def zZ:R2:=fun x y H Q=>rI IntMulOk (fun i j=>.int (i * j)) x y H Q∨Eo x y H Q∨HI x y H Q
theorem xl{X:Cx}:Nq X (binaryOp .Mult) zZ:=Nq.or Di (Nq.or vH Gg)
theorem qy(l:List Nat):∀(k:Nat)(acc:List Nat),(List.replicate k l.toArray).foldl (· ++ ·) acc.toArray=(acc++(List.replicate k l).flatten).toArray
 |0,acc=>by simp
 |k+1,acc=>by
  rw[List.replicate_succ,List.foldl_cons,List.replicate_succ,List.flatten_cons,← List.append_assoc,← qy l k (acc++l)]
  congr 1
  simp
theorem IM(a:List Nat)(k:Int):Txt.mul (S a) k=S (mS a k):=by
 unfold Txt.mul mS
 by_cases h1:k<1
 ·rw[if_pos h1];have:k.toNat=0:=by omega
  rw[this];rfl
 ·rw[if_neg h1]
  by_cases h2:k=1
  ·subst h2;simp
  ·by_cases h3:(S a).length=0
   ·rw[if_pos (by simp[h3])];have:a= []:=by rw[fZ]at h3;exact List.length_eq_zero_iff.mp h3
    subst this
    have e:∀n:Nat,(List.replicate n ([]:List Nat)).flatten= []:=fun n=>by induction n with
     |zero=>rfl
     |succ n ih=>rw[List.replicate_succ,List.flatten_cons,ih];rfl
    rw[e]
   ·rw[if_neg (by simp[h2,h3])];have:=qy a k.toNat [];rw[List.nil_append]at this;show(⟨_⟩:Str)=⟨_⟩
    congr 1
theorem uc{K:W.Frag}{T:Tab}:eV K T zZ hR:=by
 intro F m h H x y p q Q Ew R rp rq w;unfold hR at w
 split at w
 ·cases rp;cases rq
  split at w
  ·rename_i hc
   exact .inl ⟨_,_,rfl,rfl,(by
    unfold hZ at hc;rw[Bool.or_eq_true,Bool.or_eq_true,cT,cT]at hc;rcases hc with c|c|c
    ·exact Ea.ok (.inl c)
    ·exact Ea.ok (.inr c)
    ·exact IntMulOk.of_le (acg _) (acg _) (of_decide_eq_true c)),aV w R (.int _)⟩
  ·exact w.elim
 ·rename_i a k
  cases rp;cases rq
  split at w
  ·rename_i hc;obtain⟨Zn,h3⟩:=hc;obtain⟨h1,h2⟩:=cT.mp Zn;refine .inr (.inl ⟨_,_,rfl,rfl,⟨?_,fun g1 g2=>?_,fun g1 g2=>?_⟩,by rw[IM];exact aV w R (.str _)⟩)
   ·simp;omega
   ·have hl:((S a).length:Int)≤2 ^ 20:=by rw[fZ];have:a.length * 1≤a.length * k.toNat:=Nat.mul_le_mul_left _ (by omega);omega
    have:(2:Int) ^ 20≤(2 ^ 63 - 1) / k:=by rw[Int.le_ediv_iff_mul_le (by omega)];have:(2:Int) ^ 20 * k≤2 ^ 20 * 2 ^ 20:=Int.mul_le_mul_of_nonneg_left (by omega) (by decide);omega
    omega
   ·rw[fZ];unfold Builtin.Str.tooLong;simp;have:(2:Nat) ^ 20≤sizeLine:=by decide
    omega
  ·exact w.elim
 ·rename_i k hs hi
  cases rq
  split at w
  ·rename_i xs e
   split at w
   ·rename_i hc;obtain⟨Zn,h3⟩:=hc;obtain⟨SJ,Va⟩:=cT.mp Zn;have h1: -(2 ^ 63)≤k:=by omega
    have h2:k<2 ^ 63:=by omega
    obtain⟨a,vs,rfl,ea,ra⟩:=jS R rp e
    have rr:∀n:Nat,ay K T F m (List.replicate n xs).flatten (List.replicate n vs).flatten:=fun n=>by
     induction n with
     |zero=>exact .nil
     |succ n ih=>rw[List.replicate_succ,List.replicate_succ,List.flatten_cons,List.flatten_cons];exact ra.append ih
    exact .inr (.inr ⟨a,k,vs,rfl,rfl,ea,h1,h2,by rw[← ra.length];exact h3,fU w R (rr _)⟩)
   ·exact w.elim
  ·exact w.elim
 ·exact w.elim
section
variable{X:Cx}{T:Tab}{Ew:XK}{a b:Expr}{fa fb:Ex}{pos:Pos}
theorem rh(ha:RE X T Ew a fa)(hb:RE X T Ew b fb):RE X T Ew (.BinOp a .Sub b pos) (c2 kK fa fb):=by with_unfolding_all exact(
  oa Gf Aj ha hb)
theorem zT(ha:RE X T Ew a fa)(hb:RE X T Ew b fb):RE X T Ew (.BinOp a .Mult b pos) (c2 hR fa fb):=by with_unfolding_all exact(
  oa xl uc ha hb)
theorem jt(ha:RE X T Ew a fa)(hb:RE X T Ew b fb):RE X T Ew (.BinOp a .Mod b pos) (c2 bx fa fb):=by with_unfolding_all exact(
  oa Gh (Ao fun i j h=>of_decide_eq_true h) ha hb)
theorem iV(ha:RE X T Ew a fa)(hb:RE X T Ew b fb):RE X T Ew (.BinOp a .FloorDiv b pos) (c2 dj fa fb):=by with_unfolding_all exact(
  oa Dj (Ao fun i j h=>(by have z:=of_decide_eq_true h;exact z)) ha hb)
noncomputable def mT(p:PV)(h:List PO):Res PV:=match p with
 |.int i=>.ok (.int (-i)) h
 |_=>.bad
theorem zS(ha:RE X T Ew a fa):RE X T Ew (.UnaryOp .USub a pos) (c1 mT fa):=by with_unfolding_all exact(
  Hy Fe (by
 intro F m h H x p Q Ew R rp w;unfold mT at w
 split at w
 ·cases rp;exact⟨_,rfl,aV w R (.int _)⟩
 ·exact w.elim) ha)
end
mutual
inductive Ry(K:W.Frag)(H:Hp):V→PyData→Prop where
 |non:Ry K H .non .none
 |bl (b:Bool):Ry K H (.bl b) (.bool b)
 |int (i:Int):Ry K H (.int i) (.int i)
 |str (x:Str):Ry K H (.str x) (.str x)
 |lst {a:Addr} {vs:List V} {ds:List PyData} (e:M_ K H a vs) (r:mJ K H vs ds):Ry K H (.ref a) (.list ds)
 |tup {a:Addr} {vs:List V} {ds:List PyData} (e:NP K H a vs) (r:mJ K H vs ds):Ry K H (.ref a) (.tuple ds)
inductive mJ(K:W.Frag)(H:Hp):List V→List PyData→Prop where
 |nil:mJ K H [] []
 |cons {v:V} {d:PyData} {vs:List V} {ds:List PyData} (r:Ry K H v d) (t:mJ K H vs ds):mJ K H (v::vs) (d::ds)
end
section
variable{X:Cx}{pins:List (Addr×Obj)}{σ:St}{H:Hp}{s:Shared}
mutual
theorem Ry.reads(I:Inv X pins σ H s):∀{x:V}{d:PyData}{u:Value},Ry X.K H x d→bB x u→∃as,Reads s.heap u d as
 |_,_,_,.non,r=>by cases r;exact⟨_,.none⟩
 |_,_,_,.bl b,r=>by cases r;exact⟨_,.bool b⟩
 |_,_,_,.int i,r=>by obtain⟨t,rfl⟩:=r;exact⟨_,.int i t⟩
 |_,_,_,.str x,r=>by obtain⟨t,rfl⟩:=r;exact⟨_,.str x t⟩
 |_,_,_,.lst e rr,r=>by
  cases r
  obtain⟨its,rv,⟨o,n,h1,h2,h3,h4⟩,_⟩:=I.list e;obtain⟨as,ra⟩:=mJ.reads I rr rv;exact⟨_,.list h1 h2 h4 (by simpa using ra)⟩
 |_,_,_,.tup e rr,r=>by
  cases r
  obtain⟨its,rv,⟨o,h1,h2,n,h4⟩,_⟩:=I.tuple e;obtain⟨as,ra⟩:=mJ.reads I rr rv;exact⟨_,.tuple h1 h2 h4 (by simpa using ra)⟩
theorem mJ.reads(I:Inv X pins σ H s):∀{xs:List V}{ds:List PyData}{us:List Value},mJ X.K H xs ds→bh xs us→∃as,ReadsAll s.heap us ds as
 |_,_,_,.nil,r=>by cases r;exact⟨_,.nil⟩
 |_,_,_,.cons q t,r=>by
  cases r with
  |cons r1 r2=>obtain⟨as,ra⟩:=Ry.reads I q r1;obtain⟨bs,rb⟩:=mJ.reads I t r2;exact⟨_,.cons ra rb⟩
end
end
mutual
def toD:PV→PyData
 |.non=>.none
 |.bl b=>.bool b
 |.int i=>.int i
 |.str l=>.str (S l)
 |.tup xs=>.tuple (gN xs)
 |.lst xs=>.list (gN xs)
 |.O7 xs=>.list (gN xs)
 |_=>.dict []
def gN:List PV→List PyData
 |[]=>[]
 |x::r=>toD x::gN r
end
theorem nN:∀l:List PV,gN l=l.map toD
 |[]=>by simp[gN]
 |x::r=>by simp[gN,nN r]
def O2(h:List PO):PV→PyData
 |.ref i=>match h[i]? with
  |some (.lst xs)=>.list (gN xs)
  |_=>.dict []
 |p=>toD p
section
variable{K:W.Frag}{T:Tab}{F H:Hp}{m:List Addr}
mutual
theorem aH.rd(sm:di F H):∀{p:PV}{x:V},aH K T F m p x→(toD p).canLay0=true→Ry K H x (toD p)
 |_,_,.non,_=>by simp only[toD];exact .non
 |_,_,.bl b,_=>by simp only[toD];exact .bl b
 |_,_,.int i,_=>by simp only[toD];exact .int i
 |_,_,.str x,_=>by simp only[toD];exact .str _
 |_,_,.ty n,h=>by simp[toD,PyData.canLay0]at h
 |_,_,.cls c,h=>by simp[toD,PyData.canLay0]at h
 |_,_,.tup e r,h=>by simp only[toD]at h ⊢;exact .tup (sm.Qs e) (ay.rd sm r (by simpa[PyData.canLay0]using h))
 |_,_,.lst e r,h=>by simp only[toD]at h ⊢;exact .lst (M_.of (sm _ _ e)) (ay.rd sm r (by simpa[PyData.canLay0]using h))
 |_,_,.O7 e r,h=>by simp only[toD]at h ⊢;exact .lst (sm.seq e) (ay.rd sm r (by simpa[PyData.canLay0]using h))
 |_,_,.dct e k r,h=>by simp[toD,PyData.canLay0]at h
 |_,_,.ins c e d k r,h=>by simp[toD,PyData.canLay0]at h
 |_,_,.ref e,h=>by simp[toD,PyData.canLay0]at h
theorem ay.rd(sm:di F H):∀{p:List PV}{x:List V},ay K T F m p x→PyData.canLayAll0 (gN p)=true→mJ K H x (gN p)
 |_,_,.nil,_=>by simp only[gN];exact .nil
 |_,_,.cons r t,h=>by simp only[gN,PyData.canLayAll0,acf]at h ⊢;exact .cons (aH.rd sm r h.1) (ay.rd sm t h.2)
end
theorem aH.Xq{h:List PO}(R:RelH K T F m h H){p:PV}{x:V}(r:aH K T F m p x)(c:(O2 h p).canLay0=true):Ry K H x (O2 h p):=by
 by_cases hr:∃i,p=.ref i
 ·obtain⟨i,rfl⟩:=hr
  cases r with
  |@ref _ a e=>
   have c':(match h[i]? with|some (.lst xs)=>PyData.list (gN xs)|_=>.dict []).canLay0=true:=c;show Ry K H (.ref a) (match h[i]? with|some (.lst xs)=>PyData.list (gN xs)|_=>.dict [])
   cases q:h[i]? with
   |none=>rw[q]at c';simp[PyData.canLay0]at c'
   |some o=>
    rw[q]at c'
    cases o with
    |lst xs=>obtain⟨_,vs,e1,rr⟩:=R.obj i _ a q e;exact .lst (M_.of e1) (ay.rd R.same rr (by simpa[PyData.canLay0]using c'))
    |dct _=>simp[PyData.canLay0]at c'
    |K3 _=>simp[PyData.canLay0]at c'
 ·have e:O2 h p=toD p:=by
   unfold O2
   split
   ·exact absurd ⟨_,rfl⟩ hr
   ·rfl
  rw[e]at c ⊢;exact aH.rd R.same r c
end
def Oe(h:List PO)(p:PV):Bool:=(O2 h p).canLay0&&decide ((O2 h p).depth≤60)
def G9(p q:PV)(h:List PO):Res PV:=if Oe h p=true∧Oe h q=true then .ok (.bl (PyData.eqv (O2 h p) (O2 h q))) h else .bad
def Ow(p q:PV)(h:List PO):Res PV:=if Oe h p=true∧Oe h q=true then .ok (.bl (!PyData.eqv (O2 h p) (O2 h q))) h else .bad
noncomputable def CM(K:W.Frag)(neg:Bool):R2:=fun x y H Q=>∃d e,Ry K H x d∧Ry K H y e∧d.canLay0=true∧e.canLay0=true∧d.depth≤60∧Q (.bl (if neg then !PyData.eqv d e else PyData.eqv d e)) H
section
variable{X:Cx}{T:Tab}{Ew:XK}{a b:Expr}{fa fb:Ex}{pos:Pos}
theorem AK(hu:X.A.units+64<cLine):Nq X (compareOp .Eq) (CM X.K false):=by intro pins s σ H x y v u Q I rx ry h;obtain⟨d,e,h1,h2,c1,c2,dp,q⟩:=h;obtain⟨as,ra⟩:=h1.reads I rx;obtain⟨bs,rb⟩:=h2.reads I ry;exact SeqAt.compareEq_reads ra rb c1 c2 (by have:=Nat.min_le_left d.depth e.depth;omega) ⟨.bl _,H,I,rfl,q⟩
theorem vG(hu:X.A.units+64<cLine):Nq X (compareOp .NotEq) (CM X.K true):=by intro pins s σ H x y v u Q I rx ry h;obtain⟨d,e,h1,h2,c1,c2,dp,q⟩:=h;obtain⟨as,ra⟩:=h1.reads I rx;obtain⟨bs,rb⟩:=h2.reads I ry;exact SeqAt.compareNe_reads ra rb c1 c2 (by have:=Nat.min_le_left d.depth e.depth;omega) ⟨.bl _,H,I,rfl,q⟩
theorem xg{K:W.Frag}{T:Tab}:eV K T (CM K false) G9:=by
 intro F m h H x y p q Q Ew R rp rq w;unfold G9 at w
 split at w
 ·rename_i hc;unfold Oe at hc;simp only[acf,decide_eq_true_eq]at hc;exact⟨_,_,rp.Xq R hc.1.1,rq.Xq R hc.2.1,hc.1.1,hc.2.1,hc.1.2,aV w R (.bl _)⟩
 ·exact w.elim
theorem rA{K:W.Frag}{T:Tab}:eV K T (CM K true) Ow:=by
 intro F m h H x y p q Q Ew R rp rq w;unfold Ow at w
 split at w
 ·rename_i hc;unfold Oe at hc;simp only[acf,decide_eq_true_eq]at hc;exact⟨_,_,rp.Xq R hc.1.1,rq.Xq R hc.2.1,hc.1.1,hc.2.1,hc.1.2,aV w R (.bl _)⟩
 ·exact w.elim
noncomputable def yz(g:Int→Int→Bool)(p q:PV)(h:List PO):Res PV:=match p,q with
 |.int i,.int j=>.ok (.bl (g i j)) h
 |_,_=>.bad
theorem eR{K:W.Frag}{T:Tab}{g:Int→Int→Bool}:eV K T (T8 fun i j=>.bl (g i j)) (yz g):=by
 intro F m h H x y p q Q Ew R rp rq w;unfold yz at w
 split at w
 ·cases rp;cases rq;exact⟨_,_,rfl,rfl,aV w R (.bl _)⟩
 ·exact w.elim
abbrev Ss:=yz fun i j=>decide (i<j)
abbrev Tw:=yz fun i j=>decide (j<i)
abbrev pGe:=yz fun i j=>decide (j≤i)
noncomputable def gJ:PV→Bool
 |.non=>true
 |_=>false
theorem qu{K:W.Frag}{T:Tab}{F:Hp}{m:List Addr}{p:PV}{x:V}(r:aH K T F m p x):decide (x=.non)=gJ p:=by cases r<;>simp[gJ]
def Sv(p q:PV)(h:List PO):Res PV:=match q with
 |.non=>.ok (.bl (gJ p)) h
 |_=>.bad
def dQ(p q:PV)(h:List PO):Res PV:=match q with
 |.non=>.ok (.bl (!gJ p)) h
 |_=>.bad
end
noncomputable def fB(y x:List Nat)(lo:Nat):Option Nat:=(List.range (x.length+1)).find? fun i=>decide (lo≤i)&&y.isPrefixOf (x.drop i)
theorem pQ(x y:List Nat)(i:Nat)(hi:i+y.length≤x.length):Builtin.Str.subAt (S x) (S y) i=y.isPrefixOf (x.drop i):=by
 unfold Builtin.Str.subAt;rw[fZ];rw[Bool.eq_iff_iff,beq_iff_eq,List.isPrefixOf_iff_prefix]
 have e:(S x).cps.extract i (i+y.length)=((x.drop i).take y.length).toArray:=by apply Array.toList_inj.mp;simp[S,List.extract_eq_drop_take]
 rw[e];show((x.drop i).take y.length).toArray=(S y).cps↔_;constructor
 ·intro h;have h':(x.drop i).take y.length=y:=by simpa[S]using congrArg Array.toList h
  refine⟨(x.drop i).drop y.length,?_⟩;have q:=List.take_append_drop y.length (x.drop i);rw[h']at q;exact q
 ·rintro⟨t,ht⟩
  rw[← ht,List.take_left];rfl
theorem we(x y:List Nat)(i:Nat):StrLaws.At (S x) (S y) (S x).length i↔i≤x.length∧y.isPrefixOf (x.drop i)=true:=by
 unfold StrLaws.At;rw[fZ,fZ];constructor
 ·rintro⟨h1,h2⟩
  rw[pQ x y i h1]at h2;exact⟨by omega,h2⟩
 ·rintro⟨h1,h2⟩
  have:i+y.length≤x.length:=by have:=(List.isPrefixOf_iff_prefix.mp h2).length_le;rw[List.length_drop]at this;omega
  exact⟨this,by rw[pQ x y i this];exact h2⟩
theorem vL(x y:List Nat)(lo:Nat):Builtin.Str.occurrences (S x) (S y) lo (S x).length 1=(fB y x lo).toList:=by
 have Mi:=StrLaws.occ_length_le (S x) (S y) lo (S x).length 1;rcases StrLaws.occ_head_from (S x) (S y) lo 1 (acg _)with⟨h0,hn⟩|⟨i,r,h0,hl,ha,hn⟩
 ·rw[h0]
  have:fB y x lo=none:=by unfold fB;rw[List.find?_eq_none];intro i hi hc;simp only[acf,decide_eq_true_eq]at hc;exact hn i hc.1 ((we x y i).mpr ⟨by have:=List.mem_range.mp hi;omega,hc.2⟩)
  rw[this];rfl
 ·rw[h0]at Mi ⊢
  have hr:r= []:=by cases r with
   |nil=>rfl
   |cons _ _=>simp at Mi
  subst hr;obtain⟨a1,a2⟩:=(we x y i).mp ha
  have:fB y x lo=some i:=by
   unfold fB;rw[List.find?_range_eq_some];refine⟨by simp[hl,a2],by simp;omega,fun j hj=>?_⟩;simp only[Bool.not_eq_true',Bool.and_eq_false_iff,decide_eq_false_iff_not];rcases Nat.lt_or_ge j lo with q|q
   ·exact .inl (by omega)
   ·right
    cases z:y.isPrefixOf (x.drop j)with
    |false=>rfl
    |true=>exact absurd ((we x y j).mpr ⟨by omega,z⟩) (hn j q hj)
  rw[this];rfl
def Bq(y x:List Nat):Bool:=(fB y x 0).isSome
theorem KU(x y:List Nat):(!(Builtin.Str.occurrences (S x) (S y) 0 (S x).length 1).isEmpty)=Bq y x:=by
 rw[vL];unfold Bq
 cases fB y x 0<;>rfl
noncomputable def lJ:PV→Option PK
 |.int i=>some (.inl i)
 |.str l=>some (.inr l)
 |_=>none
noncomputable def iM(kvs:List (PK×PV))(k:PK):Option PV:=(kvs.find? fun kv=>decide (kv.1=k)).map (·.2)
theorem jU{K:W.Frag}{T:Tab}{F:Hp}{m:List Addr}{p:PV}{x:V}{k:PK}(r:aH K T F m p x)(e:lJ p=some k):x=kV (tk k):=by cases r<;>simp[lJ]at e<;>subst e<;>rfl
theorem nK{K:W.Frag}{T:Tab}{F:Hp}{m:List Addr}:∀{kps:List (PK×PV)}{kvs:List (Key×V)},kvs.map (·.1)=kps.map (fun p=>tk p.1)→ay K T F m (kps.map (·.2)) (kvs.map (·.2))→∀k:PK,
  (∃p v,iM kps k=some p∧md kvs (tk k)=some v∧aH K T F m p v)∨(iM kps k=none∧md kvs (tk k)=none)
 |[],[],_,_,k=>.inr ⟨rfl,rfl⟩
 |[],_::_,h,_,_=>by simp at h
 |_::_,[],h,_,_=>by simp at h
 |(k1,p1)::kps,(k2,v2)::kvs,h,r,k=>by
  simp only[List.map_cons,List.cons.injEq]at h
  cases r with
  |cons r1 r2=>
   by_cases e:k1=k
   ·subst e;exact .inl ⟨p1,v2,by simp[iM],by rw[kZ (p:=(k2,v2)) h.1],r1⟩
   ·have e2:¬ k2=tk k:=fun z=>e (vm (h.1.symm.trans z));rw[lg (p:=(k2,v2)) e2];have:iM ((k1,p1)::kps) k=iM kps k:=by simp[iM,e]
    rw[this];exact nK h.2 r2 k
def yx(p q:PV)(h:List PO):Option Bool:=match q with
 |.str b=>match p with
  |.str a=>some (Bq a b)
  |_=>none
 |q=>match Vd h q with
  |some kvs=>match lJ p with
   |some k=>some (iM kvs k).isSome
   |none=>none
  |none=>match T6 h q with
   |some xs=>if Oe [] p=true∧xs.all (Oe [])=true then some (xs.any fun y=>PyData.eqv (toD y) (toD p))else none
   |none=>none
def Rz(p q:PV)(h:List PO):Res PV:=match yx p q h with
 |some b=>.ok (.bl b) h
 |none=>.bad
def hG(p q:PV)(h:List PO):Res PV:=match yx p q h with
 |some b=>.ok (.bl (!b)) h
 |none=>.bad
noncomputable def CL(K:W.Frag)(neg:Bool):R2:=fun x y H Q=>∃b:Bool,Q (.bl (if neg then !b else b)) H∧
  ((∃i j,x=.str i∧y=.str j∧b=!(Builtin.Str.occurrences j i 0 j.length 1).isEmpty)∨(∃a o,y=.ref a∧uY H a x o∧b=o.isSome)∨
   (∃p xs d ds,y=.ref p∧(M_ K H p xs∨NP K H p xs)∧Ry K H x d∧mJ K H xs ds∧d.canLay0=true∧ds.all PyData.canLay0=true∧d.depth≤60∧b=ds.any fun e=>PyData.eqv e d))
section
variable{X:Cx}{T:Tab}{Ew:XK}{a b:Expr}{fa fb:Ex}{pos:Pos}
noncomputable def kb(h:Heap)(d:PyData)(y:Value):Bool:=open Classical in if q:∃e as,Reads h y e as∧e.canLay0=true then PyData.eqv q.choose d else false
theorem xD{h:Heap}{d e:PyData}{y:Value}{as:List Addr}(r:Reads h y e as)(c:e.canLay0=true):kb h d y=PyData.eqv e d:=by
 have q:∃e as,Reads h y e as∧e.canLay0=true:=⟨e,as,r,c⟩
 unfold kb;rw[dif_pos q];obtain⟨as',r',c'⟩:=q.choose_spec;rw[SeqAt.Reads.unique _ _ _ _ _ c r r']
theorem jJ{h:Heap}{d:PyData}:∀{us:List Value}{ds:List PyData}{as:List Addr},ReadsAll h us ds as→ds.all PyData.canLay0=true→us.any (kb h d)=ds.any fun e=>PyData.eqv e d
 |_,_,_,.nil,_=>rfl
 |_,_,_,.cons r t,c=>by simp only[List.all_cons,acf]at c;rw[List.any_cons,List.any_cons,xD r c.1,jJ t c.2]
theorem jw{A:Around}{s:Shared}{d:PyData}{v:Value}{bs:List Addr}(rv:Reads s.heap v d bs)(cd:d.canLay0=true)(hu:A.units+d.depth<cLine):
  ∀{us:List Value}{ds:List PyData}{as:List Addr},ReadsAll s.heap us ds as→ds.all PyData.canLay0=true→∀u∈us,SeqAt.EqAt A s u v (kb s.heap d u)
 |_,_,_,.nil,_=>fun u hu=>by cases hu
 |_,_,_,.cons r t,c=>fun u V6=>by
  simp only[List.all_cons,acf]at c;rcases List.mem_cons.mp V6 with rfl|V6
  ·rw[xD r c.1];exact SeqAt.eqAt_reads _ _ A s _ _ _ _ r rv c.1 cd (by have:=Nat.min_le_right (PyData.depth ‹PyData›) d.depth;omega)
  ·exact jw rv cd hu t c.2 u V6
theorem rG(hu:X.A.units+64<cLine):Nq X (compareOp .In) (CL X.K false):=by
 intro pins s σ H x y v u Q I rx ry h;obtain⟨b,q,h⟩:=h;have fin:∀s',Inv X pins σ H s'→EP X pins σ Q (.bool b) s':=fun s' I'=>⟨.bl b,H,I',rfl,q⟩
 rcases h with⟨i,j,rfl,rfl,rfl⟩|⟨a,o,rfl,g,rfl⟩|⟨p,xs,d,ds,rfl,sq,rd,Wr,c1,c2,dp,rfl⟩
 ·obtain⟨t,rfl⟩:=rx;obtain⟨t',rfl⟩:=ry;exact in_str (fin s I)
 ·cases ry
  exact KL (by omega) I g rx fun s' I'=>fin s' I'
 ·cases ry
  obtain⟨as,ra⟩:=rd.reads I rx;rcases sq with hq|hq
  ·obtain⟨its,r,pl,hz⟩:=I.list hq;obtain⟨bs,rb⟩:=Wr.reads I r;refine SeqAt.in_listAt (kb s.heap d) pl.isList (fun w hw=>jw ra c1 (by show X.A.units+1+_<_;omega) rb c2 w (by simpa using hw)) ?_;rw[show its.toArray.any (kb s.heap d)=its.any (kb s.heap d) by simp,jJ rb c2];exact fin s I
  ·obtain⟨its,r,pl,hz⟩:=I.tuple hq;obtain⟨bs,rb⟩:=Wr.reads I r;refine SeqAt.in_tupleAt (kb s.heap d) pl (fun w hw=>jw ra c1 (by show X.A.units+1+_<_;omega) rb c2 w (by simpa using hw)) ?_;rw[show its.toArray.any (kb s.heap d)=its.any (kb s.heap d) by simp,jJ rb c2];exact fin s I
theorem qb(hu:X.A.units+64<cLine):Nq X (compareOp .NotIn) (CL X.K true):=by
 intro pins s σ H x y v u Q I rx ry h;obtain⟨b,q,h⟩:=h;have fin:∀s',Inv X pins σ H s'→EP X pins σ Q (.bool (!b)) s':=fun s' I'=>⟨.bl (!b),H,I',rfl,q⟩
 rcases h with⟨i,j,rfl,rfl,rfl⟩|⟨a,o,rfl,g,rfl⟩|⟨p,xs,d,ds,rfl,sq,rd,Wr,c1,c2,dp,rfl⟩
 ·obtain⟨t,rfl⟩:=rx;obtain⟨t',rfl⟩:=ry;exact notIn_str (fin s I)
 ·cases ry
  exact DQ (by omega) I g rx fun s' I'=>fin s' I'
 ·cases ry
  obtain⟨as,ra⟩:=rd.reads I rx;rcases sq with hq|hq
  ·obtain⟨its,r,pl,hz⟩:=I.list hq;obtain⟨bs,rb⟩:=Wr.reads I r;refine SeqAt.notIn_listAt (kb s.heap d) pl.isList (fun w hw=>jw ra c1 (by show X.A.units+1+_<_;omega) rb c2 w (by simpa using hw)) ?_;rw[show its.toArray.any (kb s.heap d)=its.any (kb s.heap d) by simp,jJ rb c2];exact fin s I
  ·obtain⟨its,r,pl,hz⟩:=I.tuple hq;obtain⟨bs,rb⟩:=Wr.reads I r;refine SeqAt.notIn_tupleAt (kb s.heap d) pl (fun w hw=>jw ra c1 (by show X.A.units+1+_<_;omega) rb c2 w (by simpa using hw)) ?_;rw[show its.toArray.any (kb s.heap d)=its.any (kb s.heap d) by simp,jJ rb c2];exact fin s I
theorem xF(p:PV):O2 [] p=toD p:=by
 unfold O2
 split
 ·simp[toD]
 ·rfl
theorem gM:∀l:List PyData,PyData.canLayAll0 l=l.all PyData.canLay0
 |[]=>by simp[PyData.canLayAll0]
 |x::r=>by simp[PyData.canLayAll0,gM r]
theorem uh{K:W.Frag}{T:Tab}{F H:Hp}{m:List Addr}{h:List PO}{p q:PV}{x y:V}{k:Bool}(R:RelH K T F m h H)(rp:aH K T F m p x)(rq:aH K T F m q y)(e:yx p q h=some k):
    (∃i j,x=.str i∧y=.str j∧k=!(Builtin.Str.occurrences j i 0 j.length 1).isEmpty)∨(∃a o,y=.ref a∧uY H a x o∧k=o.isSome)∨
   (∃p xs d ds,y=.ref p∧(M_ K H p xs∨NP K H p xs)∧Ry K H x d∧mJ K H xs ds∧d.canLay0=true∧ds.all PyData.canLay0=true∧d.depth≤60∧k=ds.any fun e=>PyData.eqv e d):=by
  unfold yx at e
  split at e
  · rename_i b
    split at e
    · rename_i a
      cases rp;cases rq
      simp only[Option.some.injEq]at e;subst e;exact .inl ⟨_,_,rfl,rfl,(KU b a).symm⟩
    · cases e
  · split at e
    · rename_i kvs ed
      split at e
      · rename_i kk ek
        simp only[Option.some.injEq]at e;subst e;obtain⟨a,ws,rfl,rd,kq,rr⟩:=lT R rq ed;have hx:=jU rp ek;subst hx;refine .inr (.inl ⟨a,md ws (tk kk),rfl,.inl ⟨ws,tk kk,rd,rfl,rfl⟩,?_⟩);rcases nK kq rr kk with⟨p1,v1,h1,h2,_⟩|⟨h1,h2⟩
        · rw[h1,h2];rfl
        · rw[h1,h2];rfl
      · cases e
    · split at e
      · rename_i xs es
        split at e
        · rename_i hc
          simp only[Option.some.injEq]at e;subst e;obtain⟨a,ws,rfl,sq,rr⟩:=nq R rq es
          have h1:(toD p).canLay0=true∧(toD p).depth≤60:=by have:=hc.1;unfold Oe at this;simpa[xF]using this
          have h2:PyData.canLayAll0 (gN xs)=true:=by rw[gM,nN,List.all_map];rw[List.all_eq_true]at hc ⊢;intro z hz;have:=hc.2 z hz;unfold Oe at this;rw[xF,acf]at this;exact this.1
          refine .inr (.inr ⟨a,ws,toD p,gN xs,rfl,sq,rp.rd R.same h1.1,rr.rd R.same h2,h1.1,by rw[← gM];exact h2,h1.2,?_⟩);rw[nN,List.any_map];rfl
        · cases e
      · cases e
theorem nw{K:W.Frag}{T:Tab}:eV K T (CL K false) Rz:=by
 intro F m h H x y p q Q Ew R rp rq w;unfold Rz at w
 split at w
 ·rename_i b e;exact⟨b,aV w R (.bl b),uh R rp rq e⟩
 ·exact w.elim
theorem oq{K:W.Frag}{T:Tab}:eV K T (CL K true) hG:=by
 intro F m h H x y p q Q Ew R rp rq w;unfold hG at w
 split at w
 ·rename_i b e;exact⟨b,aV w R (.bl (!b)),uh R rp rq e⟩
 ·exact w.elim
end
def cut{α:Type}(xs:List α)(lo hi:Option Int):List α:=(xs.drop (HT.J7 xs.length 0 lo)).take (HT.J7 xs.length xs.length hi - HT.J7 xs.length 0 lo)
theorem Hu(lo hi:Option Int)(n:Nat):Builtin.Str.strSliceIndices lo hi 1 n=(List.range (HT.J7 n n hi - HT.J7 n 0 lo)).map (HT.J7 n 0 lo+ ·):=by
 rw[← sliceRange_one];unfold Builtin.Str.strSliceIndices
 have e1:∀d:Nat,d≤n→∀o:Option Int,(match o with|none=>(d:Int)|some i=>(if(1:Int)>0 then max 0 (min (if i<0 then i+(n:Int)else i) n)else max (-1) (min (if i<0 then i+(n:Int)else i) ((n:Int) - 1))))=((HT.J7 n d o:Nat):Int):=by
  intro d hd o
  cases o with
  |none=>rfl
  |some i=>
   simp only[show(1:Int)>0 by decide,if_true,HT.J7]
   by_cases h:i<0
   ·simp only[h,if_true];omega
   ·simp only[h,if_false];omega
 have e2:=e1 0 (Nat.zero_le _) lo;have e3:=e1 n (acg _) hi;simp only[show(1:Int)>0 by decide,if_true]at e2 e3 ⊢;rw[← e2,← e3];rfl
theorem DY(l:List Nat)(lo hi:Option Int):Txt.slice (S l) lo hi=S (cut l lo hi):=by
 unfold Txt.slice;have hn:(S l).length=l.length:=fZ l;rw[hn,Hu];have Vx:=HT.RQ l.length 0 (Nat.zero_le _) lo;have hhi:=HT.RQ l.length l.length (acg _) hi
 split
 ·rename_i h
  have h':HT.J7 l.length l.length hi - HT.J7 l.length 0 lo=l.length:=by simpa using h
  have e0:HT.J7 l.length 0 lo=0:=by omega
  unfold cut;rw[h',e0];simp
 ·rw[pick_run];show(⟨_⟩:Str)=⟨_⟩
  unfold cut;simp[S]
section
variable{K:W.Frag}{T:Tab}{F H:Hp}{m:List Addr}{h:List PO}
theorem ay.cut{ps:List PV}{vs:List V}(r:ay K T F m ps vs)(lo hi:Option Int):ay K T F m (cut ps lo hi) (uL vs lo hi):=by unfold L3.cut L2.uL;rw[← r.length];exact(r.drop _).take _
end
def b_(p q:PV)(h:List PO):Res PV:=match p,q with
 |.str l,.int i=>match Np l i with
  |some c=>if l.length≤sizeLine then .ok (.str [c]) h else .bad
  |none=>.bad
 |.tup xs,.int i=>match Np xs i with
  |some v=>.ok (aj h v) h
  |none=>.bad
 |p,q=>match Vd h p with
  |some kvs=>match lJ q with
   |some k=>match iM kvs k with
    |some v=>.ok (aj h v) h
    |none=>.bad
   |none=>.bad
  |none=>match Ro h p with
   |some xs=>match q with
    |.int i=>match Np xs i with
     |some v=>.ok (aj h v) h
     |none=>.bad
    |_=>.bad
   |none=>.bad
def JE(K:W.Frag):R2:=fun x y H Q=>rIx K x y H Q∨∃a v,x=.ref a∧uY H a y (some v)∧Q v H
theorem CW{K:W.Frag}{T:Tab}:eV K T (JE K) b_:=by
 intro F m h H x y p q Q Ew R rp rq w;unfold b_ at w
 split at w
 ·rename_i l i
  cases rp;cases rq
  split at w
  ·rename_i c e
   split at w
   ·rename_i hz;exact .inl (.inr (.inr ⟨_,_,c,rfl,rfl,by rw[fZ];exact hz,by rw[IN];exact e,aV w R (.str [c])⟩))
   ·exact w.elim
  ·exact w.elim
 ·rename_i xs i
  cases rq
  split at w
  ·rename_i v e;obtain⟨a,vs,rfl,ea,ra⟩:=fF R rp;obtain⟨u,eu,ru⟩:=ra.at e;exact .inl (.inr (.inl ⟨a,vs,i,u,rfl,rfl,ea,eu,aV w R (R.Rt ru)⟩))
  ·exact w.elim
 ·split at w
  ·rename_i kvs ed
   split at w
   ·rename_i k ek
    split at w
    ·rename_i v ev;obtain⟨a,ws,rfl,rd,kq,rr⟩:=lT R rp ed;have hy:=jU rq ek;subst hy;rcases nK kq rr k with⟨p1,v1,h1,h2,r1⟩|⟨h1,h2⟩
     ·rw[ev]at h1;cases h1;exact .inr ⟨a,v1,rfl,.inl ⟨ws,tk k,rd,rfl,h2.symm⟩,aV w R (R.Rt r1)⟩
     ·rw[ev]at h1;cases h1
    ·exact w.elim
   ·exact w.elim
  ·split at w
   ·rename_i xs el
    split at w
    ·cases rq
     split at w
     ·rename_i v e;obtain⟨a,vs,rfl,ea,ra⟩:=fL R rp el;obtain⟨u,eu,ru⟩:=ra.at e;exact .inl (.inl ⟨a,vs,_,u,rfl,rfl,ea,eu,aV w R (R.Rt ru)⟩)
     ·exact w.elim
    ·exact w.elim
   ·exact w.elim
section
variable{X:Cx}{T:Tab}{Ew:XK}{a b:Expr}{fa fb:Ex}{pos:Pos}
theorem Dw(hu:X.A.units+1<cLine):T3 X (fun x y H Q=>∃a v,x=.ref a∧uY H a y (some v)∧Q v H):=by
 intro value slice pins s σ H x y v u Q I rx ry q hs;obtain⟨a,v1,rfl,g,q⟩:=q
 cases rx
 have hT:=uK I g;unfold subscriptTail;refine wpAny_bind ?_;rw[getitemInPython_of_ne hT.not_modules];refine wpAny_bind (wpAny_specialOf hT PySem.F.slot_dict_getitem.lookup ?_)
 have fin:wpAny (model X.prog X.w) X.A (subscripted slice false (.ref a) u) (fun r s₃=>wpAny (model X.prog X.w) X.A (letTemporaryGo value (.ref a) r >>= fun _=>pure r) (EP X pins σ Q) X.xe s₃) X.xe s:=by rw[hs];exact wpAny_operating (wpAny_mono (yT (E:=X.xe) hu I g ry fun w' s3 I3 Sq=>show EP X pins σ Q w' s3 from⟨v1,H,I3,Sq,q⟩) (fun r s₃ h₃=>wpAny_bind (wpAny_letTemporaryGo (wpAny_pure h₃))) fun _ _ x=>x)
 first
  |exact wpAny_pure (wpAny_bind fin)
  |exact wpAny_bind (wpAny_pure (wpAny_bind fin))
  |exact wpAny_bind fin
theorem dA(hu:X.A.units+64<cLine)(ha:RE X T Ew a fa)(hb:RE X T Ew b fb)(hs:∀o i,subscripted b false o i=operate [o,i] (getItem o i):=by intro _ _;rfl):RE X T Ew (.Subscript a b pos) (c2 b_ fa fb):=by with_unfolding_all exact(
 PE.imp (HU (T3.or Gz (Dw (by omega))) ha hb hs) fun σ H Q w=>w2 CW w)
abbrev Ox:=Ev→List PO→Res (Option Int)
@[irreducible] def RO(X:Cx)(T:Tab)(Ew:XK)(e:Option Expr)(f:Ox):Prop:=L2.PO X e (fun σ H Q=>∃F m ρ h,gP X.K T F m ρ h σ H∧aG X.K T (fun _ _ (a b:Option Int)=>a=b) F m H Q Ew (f ρ h))
noncomputable def bw:Ox:=fun _ h=>.ok none h
def bq(f:Ex):Ox:=fun ρ h=>(f ρ h).bind fun p h1=>match p with
 |.int i=>.ok (some i) h1
 |_=>.bad
theorem CG:RO X T Ew none bw:=by with_unfolding_all exact(
  (by rintro pins s σ H Q I ⟨F,m,ρ,h,R,p⟩;exact Da pins s σ H Q I (aG.here p R.toRelH rfl)))
theorem CF{e:Expr}{f:Ex}(he:RE X T Ew e f):RO X T Ew (some e) (bq f):=by with_unfolding_all exact(
  fun pins s σ H Q I ⟨F,m,ρ,h,R,p⟩=>by
 refine CZ he pins s σ H Q I ⟨F,m,ρ,h,R,(aG.bind p).mono ?_⟩;rintro x H1 ⟨F1,m1,h1,a,s1,R1,ra,p1⟩
 cases ra with
 |int i=>exact⟨i,rfl,aG.here p1 R1 rfl⟩
 |_=>exact p1.elim)
def Xr(p:PV)(lo hi:Option Int)(h:List PO):Res PV:=match p with
 |.str l=>if l.length≤sizeLine then .ok (.str (cut l lo hi)) h else .bad
 |.tup xs=>if HT.J7 xs.length 0 lo=0∧HT.J7 xs.length xs.length hi=xs.length then .bad else .ok (.tup (cut xs lo hi)) h
 |p=>match Ro h p with
  |some xs=>.ok (.lst (cut xs lo hi)) h
  |none=>.bad
def HG(K:W.Frag):V→Option Int→Option Int→Hp→VK→Prop:=fun x l u H Q=>HE x l u H Q∨HD K x l u H Q∨HF K x l u H Q
theorem wZ{K:W.Frag}{F H:Hp}{m:List Addr}{h:List PO}{Q:VK}{p:PV}{x:V}{lo hi:Option Int}(R:RelH K T F m h H)(rp:aH K T F m p x)(w:aG K T (aH K T) F m H Q Ew (Xr p lo hi h)):HG K x lo hi H Q:=by
 unfold Xr at w
 split at w
 ·cases rp
  split at w
  ·rename_i hz;exact .inl ⟨_,rfl,by rw[fZ];exact hz,by rw[DY];exact aV w R (.str _)⟩
  ·exact w.elim
 ·rename_i xs
  split at w
  ·exact w.elim
  ·rename_i hz;obtain⟨a,vs,rfl,ea,ra⟩:=fF R rp;exact .inr (.inl ⟨a,vs,rfl,ea,by rw[← ra.length];exact hz,lH w R (ra.cut lo hi)⟩)
 ·split at w
  ·rename_i xs el;obtain⟨a,vs,rfl,ea,ra⟩:=fL R rp el;exact .inr (.inr ⟨a,vs,rfl,ea,fU w R (ra.cut lo hi)⟩)
  ·exact w.elim
theorem lF{x:Str}{id:String}{r:List V→Hp→VK→Prop}{g:List PV→List PO→Res PV}{e:Expr}{es:List Expr}{f:Ax}{p:Pos}(hc:dZ X (.builtin id) r)(P:pf X.K T r g)(hg:Gl X x)(hm:X.mg x=none)(hv:bootBuiltins x=some (.builtin id))
  (ha:RA X T Ew (e::es) f) (hn:x≠"__name__":=by decide) (O1:nD0 x:=by decide)(he:sE0 X e es:=by rfl) (Ng:sP0 X es pos:=by rfl):
  RE X T Ew (.Call (.Name x p) (e::es) [] pos) (cN g f):=by with_unfolding_all exact(
  PE.imp (AC hc hg hm hv ha hn O1 he Ng) fun σ H Q w=>wN P w)
theorem jO{x:Str}{id:String}{r:List V→Hp→VK→Prop}{g:List PV→List PO→Res PV}{e:Expr}{es:List Expr}{f:Ax}{p:Pos}(hc:dZ X (.type id) r)(P:pf X.K T r g)(hg:Gl X x)(hm:X.mg x=none)(hv:bootBuiltins x=some (.type id))
  (ha:RA X T Ew (e::es) f) (hn:x≠"__name__":=by decide) (O1:nD0 x:=by decide)(he:sE0 X e es:=by rfl) (Ng:sP0 X es pos:=by rfl):
  RE X T Ew (.Call (.Name x p) (e::es) [] pos) (cN g f):=by with_unfolding_all exact(
  PE.imp (yu hc hg hm hv ha hn O1 he Ng) fun σ H Q w=>wN P w)
def Ii(h:List PO)(p:PV):Option Nat:=match p with
 |.str l=>if l.length≤sizeLine then some l.length else none
 |p=>match Vd h p with
  |some kvs=>some kvs.length
  |none=>match T6 h p with
   |some xs=>some xs.length
   |none=>none
def bF(ps:List PV)(h:List PO):Res PV:=match ps with
 |[p]=>match Ii h p with
  |some n=>.ok (.int n) h
  |none=>.bad
 |_=>.bad
theorem yY{X:Cx}:dZ X (.builtin "len") (fun xs H Q=>∃a kvs,xs= [V.ref a]∧Rd H a (.dK kvs)∧Q (.int kvs.length) H):=by
 intro pins s σ H xs us Q I r h;obtain⟨a,kvs,rfl,ha,q⟩:=h;obtain⟨u,rfl,ru⟩:=nJ r
 cases ru
 exact II I ha fun t s' I'=>⟨.int kvs.length,H,I',⟨t,rfl⟩,q⟩
theorem yZ{X:Cx}:dZ X (.builtin "len") (fun xs H Q=>(∃p ys,xs= [.ref p]∧(M_ X.K H p ys∨NP X.K H p ys)∧Q (.int ys.length) H)∨(∃z,xs= [.str z]∧z.length≤sizeLine∧Q (.int z.length) H)∨∃a kvs,xs= [V.ref a]∧Rd H a (.dK kvs)∧Q (.int kvs.length) H):=
 dZ.or sK (dZ.or sJ yY)
theorem ay.one{K:W.Frag}{F:Hp}{m:List Addr}{p:PV}{xs:List V}(r:ay K T F m [p] xs):∃x,xs= [x]∧aH K T F m p x:=by
 cases r with
 |cons r t=>cases t;exact⟨_,rfl,r⟩
theorem ay.two{K:W.Frag}{F:Hp}{m:List Addr}{p q:PV}{xs:List V}(r:ay K T F m [p,q] xs):∃x y,xs= [x,y]∧aH K T F m p x∧aH K T F m q y:=by
 cases r with
 |cons r t=>cases t with
  |cons r2 t2=>cases t2;exact⟨_,_,rfl,r,r2⟩
theorem Al{K:W.Frag}{T:Tab}:pf K T (fun xs H Q=>(∃p ys,xs= [.ref p]∧(M_ K H p ys∨NP K H p ys)∧Q (.int ys.length) H)∨(∃z,xs= [.str z]∧z.length≤sizeLine∧Q (.int z.length) H)∨∃a kvs,xs= [V.ref a]∧Rd H a (.dK kvs)∧Q (.int kvs.length) H) bF:=by
 intro F m h H xs ps Q Ew R rp w;unfold bF at w
 split at w
 ·rename_i p;obtain⟨x,rfl,rx⟩:=rp.one
  split at w
  ·rename_i n e;unfold Ii at e
   split at e
   ·cases rx
    split at e
    ·rename_i hz;simp only[Option.some.injEq]at e;subst e;exact .inr (.inl ⟨_,rfl,by rw[fZ];exact hz,by rw[fZ];exact aV w R (.int _)⟩)
    ·cases e
   ·split at e
    ·rename_i kvs ed;simp only[Option.some.injEq]at e;subst e;obtain⟨a,ws,rfl,rd,kq,rr⟩:=lT R rx ed;have hl:ws.length=kvs.length:=by have:=congrArg List.length kq;simpa using this
     exact .inr (.inr ⟨a,ws,rfl,rd,by rw[hl];exact aV w R (.int _)⟩)
    ·split at e
     ·rename_i ys es;simp only[Option.some.injEq]at e;subst e;obtain⟨a,ws,rfl,sq,rr⟩:=nq R rx es;exact .inl ⟨a,ws,rfl,sq,by rw[← rr.length];exact aV w R (.int _)⟩
     ·cases e
  ·exact w.elim
 ·exact w.elim
def nM(h:List PO):PV→Option String
 |.non=>some "NoneType"
 |.bl _=>some "bool"
 |.int _=>some "int"
 |.str _=>some "str"
 |.tup _=>some "tuple"
 |p=>match Vd h p with
  |some _=>some "dict"
  |none=>match Ro h p with
   |some _=>some "list"
   |none=>none
noncomputable def Ej(t c:String):Bool:=(t==c)||(t=="bool"&&c=="int")
noncomputable def xu:List String:=["str","int","bool","list","tuple","dict"]
def gU(ps:List PV)(h:List PO):Res PV:=match ps with
 |[p,.ty c]=>if xu.contains c=true then match nM h p with
   |some t=>.ok (.bl (Ej t c)) h
   |none=>.bad
  else .bad
 |_=>.bad
end
inductive Uh(K:W.Frag)(H:Hp):V→String→Prop where
 |non:Uh K H .non "NoneType"
 |bl (x:Bool):Uh K H (.bl x) "bool"
 |int (i:Int):Uh K H (.int i) "int"
 |str (x:Str):Uh K H (.str x) "str"
 |lst {a:Addr} {xs:List V} (e:M_ K H a xs):Uh K H (.ref a) "list"
 |tup {a:Addr} {xs:List V} (e:NP K H a xs):Uh K H (.ref a) "tuple"
 |dct {a:Addr} {kvs:List (Key×V)} (e:Rd H a (.dK kvs)):Uh K H (.ref a) "dict"
theorem sL{X:Cx}:dZ X (.builtin "isinstance") (fun xs H Q=>∃x c t b,xs= [x,.ty c]∧Uh X.K H x t∧W.kitOne X.K (.type t) (.type c)=some b∧Q (.bl b) H):=by
 intro pins s σ H xs us Q I r h;obtain⟨x,c,t,b,rfl,ty,e,q⟩:=h;obtain⟨u,w',rfl,ru,Sq⟩:=zn r
 cases(show w'=Value.type c from Sq)
 have fin:∀tk,EP X pins σ Q (.bool b) { s with toks:=tk }:=fun tk=>⟨.bl b,H,I.tok tk,rfl,q⟩
 cases ty with
 |non=>cases(show u=Value.none from ru);exact W.kia_one W.kitx_none I.Qq True.intro e (fun z=>nomatch z) fin
 |bl y=>cases(show u=Value.bool y from ru);exact W.kia_one W.kitx_bool I.Qq True.intro e (fun z=>nomatch z) fin
 |int i=>obtain⟨t,q⟩:=(show∃t,u=Value.int i t from ru);cases q;exact W.kia_one W.kitx_int I.Qq True.intro e (fun z=>nomatch z) fin
 |str y=>obtain⟨t,q⟩:=(show∃t,u=Value.str y t from ru);cases q;exact W.kia_one W.kitx_str I.Qq True.intro e (fun z=>nomatch z) fin
 |lst ea=>
  cases ru
  obtain⟨its,_,⟨o,n,h1,h2,_,_⟩,_⟩:=I.list ea;exact W.kia_one W.kitx_list I.Qq ⟨_,h1,h2⟩ e (fun z=>nomatch z) fin
 |tup ea=>
  cases ru
  obtain⟨its,_,⟨o,h1,h2,_⟩,_⟩:=I.tuple ea;exact W.kia_one W.kitx_tuple I.Qq ⟨o,h1,h2⟩ e (fun z=>nomatch z) fin
 |dct ea=>
  cases ru
  obtain⟨_,_,vs,_,p⟩:=mP I.hok ea;obtain⟨o,es,ep,h1,h2,_⟩:=p;exact W.kia_one W.kitx_dict I.Qq ⟨o,h1,h2.1⟩ e (fun z=>nomatch z) fin
theorem vh{K:W.Frag}{T:Tab}{F H:Hp}{m:List Addr}{h:List PO}{p:PV}{x:V}{t:String}(R:RelH K T F m h H)(r:aH K T F m p x)(e:nM h p=some t):Uh K H x t:=by
 unfold nM at e
 split at e
 ·cases e;cases r;exact .non
 ·cases e;cases r;exact .bl _
 ·cases e;cases r;exact .int _
 ·cases e;cases r;exact .str _
 ·cases e
  obtain⟨a,vs,rfl,ea,_⟩:=fF R r;exact .tup ea
 ·split at e
  ·rename_i kvs ed
   cases e
   obtain⟨a,ws,rfl,rd,_⟩:=lT R r ed;exact .dct rd
  ·split at e
   ·rename_i xs es
    cases e
    obtain⟨a,ws,rfl,sq,_⟩:=fL R r es;exact .lst sq
   ·cases e
theorem yK(K:W.Frag){t c:String}(ht:t∈ ["NoneType","bool","int","str","tuple","dict","list"])(hc:xu.contains c=true):W.kitOne K (.type t) (.type c)=some (Ej t c):=by
 have VD:c∈xu:=by simpa using hc
 simp only[xu,List.mem_cons,List.not_mem_nil,or_false]at VD ht;rcases ht with rfl|rfl|rfl|rfl|rfl|rfl|rfl<;>rcases VD with rfl|rfl|rfl|rfl|rfl|rfl<;>rfl
theorem vi{h:List PO}{p:PV}{t:String}(e:nM h p=some t):t∈ ["NoneType","bool","int","str","tuple","dict","list"]:=by
 unfold nM at e
 split at e
 ·cases e;simp
 ·cases e;simp
 ·cases e;simp
 ·cases e;simp
 ·cases e;simp
 ·split at e
  ·cases e;simp
  ·split at e
   ·cases e;simp
   ·cases e
section
variable{X:Cx}{T:Tab}{Ew:XK}{a b:Expr}{fa fb:Ex}{pos p0:Pos}
theorem ud{K:W.Frag}{T:Tab}:pf K T (fun xs H Q=>∃x c t b,xs= [x,.ty c]∧Uh K H x t∧W.kitOne K (.type t) (.type c)=some b∧Q (.bl b) H) gU:=by
 intro F m h H xs ps Q Ew R rp w;unfold gU at w
 split at w
 ·rename_i p c;obtain⟨x,y,rfl,rx,ry⟩:=rp.two
  cases ry
  split at w
  ·rename_i hc
   split at w
   ·rename_i t e;exact⟨x,c,t,_,rfl,vh R rx e,yK K (vi e) hc,aV w R (.bl _)⟩
   ·exact w.elim
  ·exact w.elim
 ·exact w.elim
theorem FA{x:Str}{n:String}{pos:Pos}(hg:Gl X x)(hm:X.mg x=none)(hv:bootBuiltins x=some (.type n))(hn:x≠"__name__":=by decide)(hd:nD0 x:=by decide):RE X T Ew (.Name x pos) (cK (.ty n)):=by with_unfolding_all exact(
 fT (Df (v:=.ty n) hg hm hv rfl hn hd) fun _ _=>.ty n)
theorem yj{e:Expr}{es:List Expr}{f:Ax}(hg:Gl X "isinstance")(hm:X.mg "isinstance"=none)(ha:RA X T Ew (e::es) f)
  (he:sE0 X e es:=by rfl) (Ng:sP0 X es pos:=by rfl):
  RE X T Ew (.Call (.Name "isinstance" p0) (e::es) [] pos) (cN gU f):=by with_unfolding_all exact(
  lF sL ud hg hm (by decide+kernel) ha (by decide) (by decide) he Ng)
theorem FG{e:Expr}{es:List Expr}{f:Ax}(hg:Gl X "len")(hm:X.mg "len"=none)(ha:RA X T Ew (e::es) f)
  (he:sE0 X e es:=by rfl) (Ng:sP0 X es pos:=by rfl):
  RE X T Ew (.Call (.Name "len" p0) (e::es) [] pos) (cN bF f):=by with_unfolding_all exact(
  lF yZ Al hg hm (by decide+kernel) ha (by decide) (by decide) he Ng)
noncomputable def yw(ps:List PV)(h:List PO):Res PV:=match ps with
 |[.int i]=>.ok (.int i) h
 |[.bl b]=>.ok (.int (if b then 1 else 0)) h
 |_=>.bad
theorem rn{e:Expr}{es:List Expr}{f:Ax}(hg:Gl X "int")(hm:X.mg "int"=none)(ha:RA X T Ew (e::es) f)
  (he:sE0 X e es:=by rfl) (Ng:sP0 X es pos:=by rfl):
  RE X T Ew (.Call (.Name "int" p0) (e::es) [] pos) (cN yw f):=by with_unfolding_all exact(
  jO za (by
 intro F m h H xs ps Q Ew R rp w;unfold yw at w
 split at w
 ·obtain⟨x,rfl,rx⟩:=rp.one
  cases rx
  exact .inl ⟨_,rfl,aV w R (.int _)⟩
 ·obtain⟨x,rfl,rx⟩:=rp.one
  cases rx
  exact .inr ⟨_,rfl,aV w R (.int _)⟩
 ·exact w.elim) hg hm (by decide+kernel) ha (by decide) (by decide) he Ng)
def fx(ps:List PV)(h:List PO):Res PV:=match ps with
 |[p]=>match T6 h p with
  |some xs=>.ok (.tup xs) h
  |none=>.bad
 |_=>.bad
theorem nZ{e:Expr}{es:List Expr}{f:Ax}(hg:Gl X "tuple")(hm:X.mg "tuple"=none)(ha:RA X T Ew (e::es) f)
  (he:sE0 X e es:=by rfl) (Ng:sP0 X es pos:=by rfl):
  RE X T Ew (.Call (.Name "tuple" p0) (e::es) [] pos) (cN fx f):=by with_unfolding_all exact(
  jO pK (by
 intro F m h H xs ps Q Ew R rp w;unfold fx at w
 split at w
 ·rename_i p;obtain⟨x,rfl,rx⟩:=rp.one
  split at w
  ·rename_i ys es
   by_cases ht:∃zs,p=.tup zs
   ·obtain⟨zs,rfl⟩:=ht;simp only[T6,Option.some.injEq]at es;subst es;obtain⟨a,vs,rfl,ea,ra⟩:=fF R rx;exact⟨a,vs,rfl,.inr ⟨ea,aV w R rx⟩⟩
   ·have e':Ro h p=some ys:=by
     unfold T6 at es
     split at es
     ·exact absurd ⟨_,rfl⟩ ht
     ·exact es
    obtain⟨a,vs,rfl,ea,ra⟩:=fL R rx e';exact⟨a,vs,rfl,.inl ⟨ea,lH w R ra⟩⟩
  ·exact w.elim
 ·exact w.elim) hg hm (by decide+kernel) ha (by decide) (by decide) he Ng)
def qa(ps:List PV)(h:List PO):Res PV:=match ps with
 |[p]=>match T6 h p with
  |some xs=>.ok (.lst xs) h
  |none=>.bad
 |_=>.bad
theorem wQ{e:Expr}{es:List Expr}{f:Ax}(hg:Gl X "list")(hm:X.mg "list"=none)(ha:RA X T Ew (e::es) f)
  (he:sE0 X e es:=by rfl) (Ng:sP0 X es pos:=by rfl):
  RE X T Ew (.Call (.Name "list" p0) (e::es) [] pos) (cN qa f):=by with_unfolding_all exact(
  jO sI (by
 intro F m h H xs ps Q Ew R rp w;unfold qa at w
 split at w
 ·obtain⟨x,rfl,rx⟩:=rp.one
  split at w
  ·rename_i ys es;obtain⟨a,vs,rfl,ea,ra⟩:=nq R rx es;exact⟨a,vs,rfl,ea,fU w R ra⟩
  ·exact w.elim
 ·exact w.elim) hg hm (by decide+kernel) ha (by decide) (by decide) he Ng)
noncomputable def cG(ps:List PV)(h:List PO):Res PV:=if ps.length≤sizeLine then .ok (.lst ps) h else .bad
noncomputable def eZ(ps:List PV)(h:List PO):Res PV:=if ps.length≤sizeLine then .ok (.ref h.length) (h++ [.lst ps])else .bad
noncomputable def aT(ps:List PV)(h:List PO):Res PV:=if ps.length≤sizeLine then .ok (.tup ps) h else .bad
theorem iT{es:List Expr}{f:Ax}(ha:RA X T Ew es f):RE X T Ew (.List es pos) (cN cG f):=by with_unfolding_all
 refine PE.imp (Az ha) ?_;rintro σ H Q ⟨F,m,ρ,h,R,p⟩;refine⟨F,m,ρ,h,R,(aG.bind p).mono ?_⟩;rintro xs H1 ⟨F1,m1,h1,ps,s1,R1,r1,w1⟩
 unfold cG at w1
 split at w1
 ·rename_i hz;exact⟨by rw[← r1.length];exact hz,fU w1 R1 r1⟩
 ·exact w1.elim
theorem rj{es:List Expr}{f:Ax}(ha:RA X T Ew es f):RE X T Ew (.List es pos) (cN eZ f):=by with_unfolding_all
 refine PE.imp (Az ha) ?_;rintro σ H Q ⟨F,m,ρ,h,R,p⟩;refine⟨F,m,ρ,h,R,(aG.bind p).mono ?_⟩;rintro xs H1 ⟨F1,m1,h1,ps,s1,R1,r1,w1⟩
 unfold eZ at w1
 split at w1
 ·rename_i hz;exact⟨by rw[← r1.length];exact hz,ot w1 R1 r1⟩
 ·exact w1.elim
theorem kF{es:List Expr}{f:Ax}{x1}(ha:RA X T Ew es f):RE X T Ew (.Tuple es x1 pos) (cN aT f):=by with_unfolding_all
 refine PE.imp (FY ha) ?_;rintro σ H Q ⟨F,m,ρ,h,R,p⟩;refine⟨F,m,ρ,h,R,(aG.bind p).mono ?_⟩;rintro xs H1 ⟨F1,m1,h1,ps,s1,R1,r1,w1⟩
 unfold aT at w1
 split at w1
 ·rename_i hz;exact⟨by rw[← r1.length];exact hz,lH w1 R1 r1⟩
 ·exact w1.elim
noncomputable def Zz(h:List PO):PV→Option (List (PK×PV))
 |.ref i=>match h[i]? with
  |some (.dct kvs)=>some kvs
  |_=>none
 |_=>none
theorem DP{K:W.Frag}{F H:Hp}{m:List Addr}{h:List PO}{p:PV}{x:V}{kps:List (PK×PV)}(R:RelH K T F m h H)(r:aH K T F m p x)(e:Zz h p=some kps):∃a kvs,x=.ref a∧H a=some (.dK kvs)∧kvs.map (·.1)=kps.map (fun p=>tk p.1)∧ay K T F m (kps.map (·.2)) (kvs.map (·.2)):=by
 cases r with
 |@ref i a em=>
  have e:(match h[i]? with|some (.dct xs)=>some xs|_=>none)=some kps:=e
  cases q:h[i]? with
  |none=>rw[q]at e;cases e
  |some o=>
   rw[q]at e
   cases o with
   |dct xs=>simp only[Option.some.injEq]at e;subst e;obtain⟨_,vs,e1,k,rr⟩:=R.obj i _ a q em;exact⟨a,vs,rfl,e1,k,rr⟩
   |lst _=>cases e
   |K3 _=>cases e
 |_=>simp[Zz]at e
def kA(h:List PO):PV→Option Bool
 |.non=>some false
 |.bl b=>some b
 |.int i=>some (i !=0)
 |.str l=>if l.length≤sizeLine then some (!l.isEmpty)else none
 |p=>match T6 h p with
  |some xs=>some (!xs.isEmpty)
  |none=>match Zz h p with
   |some kvs=>some (!kvs.isEmpty)
   |none=>none
def ki(f:Ex):Tx:=fun ρ h=>(f ρ h).bind fun p h1=>match kA h1 p with
 |some b=>.ok b h1
 |none=>.bad
theorem jA{α β:Type}{xs:List α}{ys:List β}(h:xs.length=ys.length):xs.isEmpty=ys.isEmpty:=by cases xs<;>cases ys<;>simp at h ⊢
theorem tG{K:W.Frag}{F H:Hp}{m:List Addr}{h:List PO}{p:PV}{x:V}{k:Bool}(R:RelH K T F m h H)(r:aH K T F m p x)(e:kA h p=some k):GT K x H k:=by
 unfold kA at e
 split at e
 ·cases e;cases r;exact rfl
 ·cases e;cases r;exact rfl
 ·cases e;cases r;exact rfl
 ·rename_i l
  cases r
  split at e
  ·rename_i hz
   cases e
   refine⟨by rw[fZ];exact hz,?_⟩;rw[fZ]
   cases l<;>simp
   omega
  ·cases e
 ·split at e
  ·rename_i xs es
   cases e
   obtain⟨a,vs,rfl,ea,ra⟩:=nq R r es;rcases ea with ea|ea
   ·exact .inl ⟨vs,ea,by rw[jA ra.length]⟩
   ·exact .inr (.inl ⟨vs,ea,by rw[jA ra.length]⟩)
  ·split at e
   ·rename_i kvs ed
    cases e
    obtain⟨a,ws,rfl,e1,kq,_⟩:=DP R r ed;have hl:ws.length=kvs.length:=by have:=congrArg List.length kq;simpa using this
    exact .inr (.inr ⟨ws,e1,by rw[jA hl]⟩)
   ·cases e
theorem mh(ha:RE X T Ew a fa)(he:∀whole,isTrue a X.env whole=(do let v ← whole;standAt a.pos;holding [v] (truthy v)):=by intro _;rfl):RT X T Ew a (ki fa):=by with_unfolding_all
 refine PT.imp (Ae ha he) ?_;rintro σ H Q ⟨F,m,ρ,h,R,p⟩;refine⟨F,m,ρ,h,R,(aG.bind p).mono ?_⟩;rintro x H1 ⟨F1,m1,h1,p1,s1,R1,r1,w1⟩
 cases e:kA h1 p1 with
 |none=>rw[e]at w1;exact w1.elim
 |some k=>rw[e]at w1;exact⟨k,tG R1 r1 e,aG.here w1 R1 rfl⟩
def au(f:Ex):Tx:=fun ρ h=>(f ρ h).bind fun p h1=>match p with
 |.bl b=>.ok b h1
 |_=>.bad
theorem dy{op:CmpOp}{r:R2}{g:PV→PV→List PO→Res PV}(ho:Nq X (compareOp op) r)(P:eV X.K T r g)(ha:RE X T Ew a fa)(hb:RE X T Ew b fb)(hm:behindInMarks op b=false):RT X T Ew (.Compare a [op] [b] pos) (au (c2 g fa fb)):=by with_unfolding_all
 refine PT.imp (CP ho ha hb hm) ?_;rintro σ H Q ⟨F,m,ρ,h,R,p⟩
 have p':=(aG.bind (R:=aH X.K T) p).mono (Q':=fun x H1=>∃k,x=.bl k∧Q k H1) fun x H1 ⟨F1,m1,h1,p1,s1,R1,r1,w1⟩=>by
  cases r1 with
  |bl k=>exact⟨k,rfl,aG.here w1 R1 rfl⟩
  |_=>exact w1.elim
 exact w2 P ⟨F,m,ρ,h,R,p'⟩
def Ei(f:Tx):Tx:=fun ρ h=>(f ρ h).bind fun b h1=>.ok (!b) h1
def fQ(f g:Tx):Tx:=fun ρ h=>(f ρ h).bind fun b h1=>if b=true then g ρ h1 else .ok false h1
def gZ(f g:Tx):Tx:=fun ρ h=>(f ρ h).bind fun b h1=>if b=true then .ok true h1 else g ρ h1
theorem Fu{f:Tx}(ha:RT X T Ew a f):RT X T Ew (.UnaryOp .Not a pos) (Ei f):=by with_unfolding_all exact(
 PT.imp (FK ha) (by rintro σ H Q ⟨F,m,ρ,h,R,p⟩;exact ⟨F,m,ρ,h,R,(aG.bind p).mono (by rintro x H1 ⟨F1,m1,h1,p1,s1,R1,r1,w1⟩;cases r1;exact aG.here w1 R1 rfl)⟩))
@[irreducible] def RW(X:Cx)(T:Tab)(Ew:XK)(e:Expr)(f:Tx):Prop:=PW X e (wT X T Ew f)
theorem RW.rt{e:Expr}{f:Tx}(h:RW X T Ew e f):RT X T Ew e f:=by with_unfolding_all exact(
  PW.pt h)
theorem qW{f:Tx}(ha:RT X T Ew a f):RW X T Ew (.BoolOp .And [a] pos) f:=by with_unfolding_all exact(
  CN ha)
theorem nU{f:Tx}(ha:RT X T Ew a f):RW X T Ew (.BoolOp .Or [a] pos) f:=by with_unfolding_all exact(
  FI ha)
theorem qX{f g:Tx}{rest:List Expr}(ha:RT X T Ew a f)(hb:RW X T Ew (.BoolOp .And (b::rest) pos) g):RW X T Ew (.BoolOp .And (a::b::rest) pos) (fQ f g):=by with_unfolding_all
 refine PW.imp (FJ ha hb) ?_;rintro σ H Q ⟨F,m,ρ,h,R,p⟩;refine⟨F,m,ρ,h,R,(aG.bind p).mono ?_⟩;rintro x H1 ⟨F1,m1,h1,p1,s1,R1,r1,w1⟩
 cases r1
 cases x with
 |true=>exact rQ ⟨F1,m1,ρ,h1,R.of s1 R1,w1⟩
 |false=>exact uz (aG.here w1 R1 rfl)
theorem nV{f g:Tx}{rest:List Expr}(ha:RT X T Ew a f)(hb:RW X T Ew (.BoolOp .Or (b::rest) pos) g):RW X T Ew (.BoolOp .Or (a::b::rest) pos) (gZ f g):=by with_unfolding_all
 refine PW.imp (HN ha hb) ?_;rintro σ H Q ⟨F,m,ρ,h,R,p⟩;refine⟨F,m,ρ,h,R,(aG.bind p).mono ?_⟩;rintro x H1 ⟨F1,m1,h1,p1,s1,R1,r1,w1⟩
 cases r1
 cases x with
 |true=>exact rQ (aG.here w1 R1 rfl)
 |false=>exact uz ⟨F1,m1,ρ,h1,R.of s1 R1,w1⟩
def DS(f g:Ex):Ex:=fun ρ h=>(f ρ h).bind fun p h1=>match p with
 |.bl b=>if b=true then g ρ h1 else .ok (.bl false) h1
 |_=>.bad
def Ue(f g:Ex):Ex:=fun ρ h=>(f ρ h).bind fun p h1=>match p with
 |.bl b=>if b=true then .ok (.bl true) h1 else g ρ h1
 |_=>.bad
theorem FE{op}(ha:RE X T Ew a fa):RE X T Ew (.BoolOp op [a] pos) fa:=by with_unfolding_all exact(
  Ga ha)
theorem FH{rest:List Expr}(ha:RE X T Ew a fa)(hb:RE X T Ew (.BoolOp .And (b::rest) pos) fb):RE X T Ew (.BoolOp .And (a::b::rest) pos) (DS fa fb):=by with_unfolding_all
 refine PE.imp (Gd ha hb) ?_;rintro σ H Q ⟨F,m,ρ,h,R,p⟩;refine⟨F,m,ρ,h,R,(aG.bind p).mono ?_⟩;rintro x H1 ⟨F1,m1,h1,p1,s1,R1,r1,w1⟩
 cases r1 with
 |bl k=>
  refine⟨k,rfl,?_⟩
  cases k with
  |true=>exact rQ ⟨F1,m1,ρ,h1,R.of s1 R1,w1⟩
  |false=>exact uz (aG.here w1 R1 (.bl _))
 |_=>exact w1.elim
theorem Hz{rest:List Expr}(ha:RE X T Ew a fa)(hb:RE X T Ew (.BoolOp .Or (b::rest) pos) fb):RE X T Ew (.BoolOp .Or (a::b::rest) pos) (Ue fa fb):=by with_unfolding_all
 refine PE.imp (HR ha hb) ?_;rintro σ H Q ⟨F,m,ρ,h,R,p⟩;refine⟨F,m,ρ,h,R,(aG.bind p).mono ?_⟩;rintro x H1 ⟨F1,m1,h1,p1,s1,R1,r1,w1⟩
 cases r1 with
 |bl k=>
  refine⟨k,rfl,?_⟩
  cases k with
  |true=>exact rQ (aG.here w1 R1 (.bl _))
  |false=>exact uz ⟨F1,m1,ρ,h1,R.of s1 R1,w1⟩
 |_=>exact w1.elim
def wc(t:Tx)(f g:Ex):Ex:=fun ρ h=>(t ρ h).bind fun b h1=>if b=true then f ρ h1 else g ρ h1
theorem tX{c:Expr}{t:Tx}(hc:RT X T Ew c t)(ha:RE X T Ew a fa)(hb:RE X T Ew b fb):RE X T Ew (.IfExp c a b pos) (wc t fa fb):=by with_unfolding_all
 refine PE.imp (AA hc ha hb) ?_;rintro σ H Q ⟨F,m,ρ,h,R,p⟩;refine⟨F,m,ρ,h,R,(aG.bind p).mono ?_⟩;rintro x H1 ⟨F1,m1,h1,p1,s1,R1,r1,w1⟩
 cases r1
 cases x with
 |true=>exact rQ ⟨F1,m1,ρ,h1,R.of s1 R1,w1⟩
 |false=>exact uz ⟨F1,m1,ρ,h1,R.of s1 R1,w1⟩
end
section
variable{K:W.Frag}{T:Tab}{F H:Hp}{m:List Addr}{h:List PO}
theorem RelH.upd{i:Nat}{a:Addr}{o':PO}{ho:HO}(R:RelH K T F m h H)(em:m[i]? =some a)(hF:F a=none)(hH:∃u,H a=some u)(new:Ce K T F m (upd H a ho) a o'):
  bp F m H F m (upd H a ho)∧RelH K T F m (h.set i o') (upd H a ho):=by
 have hi:i<h.length:=by
  rw[R.len];rcases Nat.lt_or_ge i m.length with q|q
  ·exact q
  ·rw[List.getElem?_eq_none q]at em;cases em
 have am:a∈m:=List.mem_of_getElem? em;refine⟨⟨di.refl _,⟨[],by simp⟩,fun b u e n=>(ak (fun z=>n (by rw[z];exact am))).trans e,fun b u e=>?_,fun j c hj e=>(by rw[List.getElem?_eq_none hj]at e;cases e),fun c u e=>.inl e⟩,?_⟩
 ·by_cases hb:b=a
  ·subst hb;exact⟨_,aJ⟩
  ·exact⟨u,by rw[ak hb];exact e⟩
 ·refine⟨fun b u e=>?_,by rw[List.length_set];exact R.len,fun j ob c e1 e2=>?_,R.nd⟩
  ·have hb:b≠a:=fun z=>by rw[z,hF]at e;cases e
   rw[ak hb];exact R.same b u e
  ·by_cases hj:i=j
   ·subst hj;rw[List.getElem?_set_self hi]at e1
    cases e1
    rw[em]at e2;cases e2;exact new
   ·rw[List.getElem?_set_ne hj]at e1
    have hc:c≠a:=fun z=>by
     subst z
     exact hj (by
      have Sy:i<m.length:=by rw[← R.len];exact hi
      have Y_:j<m.length:=by
       rcases Nat.lt_or_ge j m.length with q|q
       ·exact q
       ·rw[List.getElem?_eq_none q]at e2;cases e2
      rw[List.getElem?_eq_getElem Sy,Option.some.injEq]at em;rw[List.getElem?_eq_getElem Y_,Option.some.injEq]at e2;exact(List.getElem_inj R.nd).mp (em.trans e2.symm))
    have q:=R.obj j ob c e1 e2
    cases ob with
    |lst xs=>obtain⟨f,vs,z,rr⟩:=q;exact⟨f,vs,by rw[ak hc];exact z,rr⟩
    |dct xs=>obtain⟨f,vs,z,k,rr⟩:=q;exact⟨f,vs,by rw[ak hc];exact z,k,rr⟩
    |K3 q'=>exact q
noncomputable def mM(h:List PO):PV→Option (Nat×List PV)
 |.ref i=>match h[i]? with
  |some (.lst xs)=>some (i,xs)
  |_=>none
 |_=>none
theorem qh{p:PV}{x:V}{i:Nat}{ps:List PV}(R:RelH K T F m h H)(r:aH K T F m p x)(e:mM h p=some (i,ps)):∃a vs,x=.ref a∧m[i]? =some a∧F a=none∧H a=some (.lst vs)∧ay K T F m ps vs:=by
 cases r with
 |@ref j a em=>
  have e:(match h[j]? with|some (.lst xs)=>some (j,xs)|_=>none)=some (i,ps):=e
  cases q:h[j]? with
  |none=>rw[q]at e;cases e
  |some o=>
   rw[q]at e
   cases o with
   |lst xs=>simp only[Option.some.injEq,Prod.mk.injEq]at e;obtain⟨rfl,rfl⟩:=e;obtain⟨f,vs,e1,rr⟩:=R.obj j _ a q em;exact⟨a,vs,rfl,em,f,e1,rr⟩
   |dct _=>cases e
   |K3 _=>cases e
 |_=>simp[mM]at e
theorem Aq{Q:VK}{Ew:XK}{i:Nat}{a:Addr}{ps:List PV}{vs Xm:List V}{p:PV}{x:V}(w:aG K T (aH K T) F m H Q Ew (.ok p (h.set i (.lst ps))))(R:RelH K T F m h H)(em:m[i]? =some a)(hF:F a=none)(hH:H a=some (.lst Xm))(r:ay K T F m ps vs)
  (rp:aH K T F m p x):Q x (upd H a (.lst vs)):=by
 obtain⟨s,R'⟩:=R.upd (o':=.lst ps) (ho:=.lst vs) em hF ⟨_,hH⟩ ⟨hF,vs,aJ,r⟩;exact w F m _ _ s R' rp
def ij(h:List PO):PV→Option (PV×List PO)
 |.ref i=>match h[i]? with
  |some (.lst xs)=>if ai xs=true then some (.lst xs,h.set i (.K3 (.lst xs)))else none
  |some (.dct _)=>none
  |some (.K3 p)=>some (p,h)
  |none=>none
 |p=>if p.pure=true then some (p,h)else none
theorem DH{i:Nat}{a:Addr}{u:HO}{p:PV}(R:RelH K T F m h H)(em:m[i]? =some a)(hF:F a=none)(hH:H a=some u)(hp:p.pure=true)(r:aH K T (upd F a u) m p (.ref a)):
  bp F m H (upd F a u) m H∧RelH K T (upd F a u) m (h.set i (.K3 p)) H:=by
 have hi:i<h.length:=by
  rw[R.len];rcases Nat.lt_or_ge i m.length with q|q
  ·exact q
  ·rw[List.getElem?_eq_none q]at em;cases em
 have am:a∈m:=List.mem_of_getElem? em;have sF:di F (upd F a u):=fR hF u;refine⟨⟨sF,⟨[],by simp⟩,fun b o e _=>e,fun b o e=>⟨o,e⟩,fun j c hj e=>(by rw[List.getElem?_eq_none hj]at e;cases e),fun c o e=>?_⟩,?_⟩
 ·by_cases hc:c=a
  ·subst hc;exact .inr (.inr am)
  ·rw[ak hc]at e;exact .inl e
 ·refine⟨fun b o e=>?_,by rw[List.length_set];exact R.len,fun j ob c e1 e2=>?_,R.nd⟩
  ·by_cases hb:b=a
   ·subst hb;rw[aJ]at e;cases e;exact hH
   ·rw[ak hb]at e;exact R.same b o e
  ·by_cases hj:i=j
   ·subst hj;rw[List.getElem?_set_self hi]at e1
    cases e1
    rw[em]at e2;cases e2;exact⟨r,hp,u,aJ⟩
   ·rw[List.getElem?_set_ne hj]at e1
    have hc:c≠a:=fun z=>by
     subst z
     exact hj (by
      have Sy:i<m.length:=by rw[← R.len];exact hi
      have Y_:j<m.length:=by
       rcases Nat.lt_or_ge j m.length with q|q
       ·exact q
       ·rw[List.getElem?_eq_none q]at e2;cases e2
      rw[List.getElem?_eq_getElem Sy,Option.some.injEq]at em;rw[List.getElem?_eq_getElem Y_,Option.some.injEq]at e2;exact(List.getElem_inj R.nd).mp (em.trans e2.symm))
    have q:=R.obj j ob c e1 e2
    cases ob with
    |lst xs=>obtain⟨f,vs,z,rr⟩:=q;exact⟨by rw[ak hc];exact f,vs,z,rr.mono sF fun _ _ h=>h⟩
    |dct xs=>obtain⟨f,vs,z,k,rr⟩:=q;exact⟨by rw[ak hc];exact f,vs,z,k,rr.mono sF fun _ _ h=>h⟩
    |K3 q'=>obtain⟨r1,r2,o,r3⟩:=q;exact⟨r1.mono sF fun _ _ h=>h,r2,o,sF _ _ r3⟩
theorem iF{p q:PV}{x:V}{h':List PO}(R:RelH K T F m h H)(r:aH K T F m p x)(e:ij h p=some (q,h')):∃F',bp F m H F' m H∧RelH K T F' m h' H∧aH K T F' m q x∧q.pure=true:=by
 by_cases hr:∃i,p=.ref i
 ·obtain⟨i,rfl⟩:=hr
  have e:(match h[i]? with
   |some (.lst xs)=>if ai xs=true then some (PV.lst xs,h.set i (.K3 (.lst xs)))else none
   |some (.dct _)=>none
   |some (.K3 p)=>some (p,h)
   |none=>none)=some (q,h'):=e
  cases r with
  |@ref _ a em=>
   cases z:h[i]? with
   |none=>rw[z]at e;cases e
   |some o=>
    rw[z]at e;have ob:=R.obj i o a z em
    cases o with
    |lst xs=>
     by_cases hp:ai xs=true
     ·simp only[hp,if_true,Option.some.injEq,Prod.mk.injEq]at e;obtain⟨rfl,rfl⟩:=e;obtain⟨f,vs,e1,rr⟩:=ob;have rl:aH K T (L2.upd F a (.lst vs)) m (.lst xs) (.ref a):=.lst aJ (rr.mono (fR f _) fun _ _ h=>h);have pp:(PV.lst xs).pure=true:=by simpa[PV.pure]using hp
      obtain⟨s,R'⟩:=DH R em f e1 pp rl;exact⟨_,s,R',rl,pp⟩
     ·simp[hp]at e
    |dct kvs=>cases e
    |K3 p=>simp only[Option.some.injEq,Prod.mk.injEq]at e;obtain⟨rfl,rfl⟩:=e;exact⟨F,.refl,R,ob.1,ob.2.1⟩
 ·have e':(if p.pure=true then some (p,h)else none)=some (q,h'):=by
   unfold ij at e
   split at e
   ·exact absurd ⟨_,rfl⟩ hr
   ·exact e
  by_cases hp:p.pure=true
  ·simp only[hp,if_true,Option.some.injEq,Prod.mk.injEq]at e';obtain⟨rfl,rfl⟩:=e';exact⟨F,.refl,R,r,hp⟩
  ·simp[hp]at e'
def MP:List PV→List PO→Option (List PV×List PO)
 |[],h=>some ([],h)
 |p::r,h=>match ij h p with
  |some (q,h1)=>match MP r h1 with
   |some (qs,h2)=>some (q::qs,h2)
   |none=>none
  |none=>none
end
theorem uE{K:W.Frag}{T:Tab}{m:List Addr}{H:Hp}:∀{ps qs:List PV}{xs:List V}{h h':List PO}{F:Hp},RelH K T F m h H→ay K T F m ps xs→MP ps h=some (qs,h')→
  ∃F',bp F m H F' m H∧RelH K T F' m h' H∧ay K T F' m qs xs∧ai qs=true
 |[],qs,xs,h,h',F,R,r,e=>by simp only[MP,Option.some.injEq,Prod.mk.injEq]at e;obtain⟨rfl,rfl⟩:=e;exact⟨F,.refl,R,r,by simp[ai]⟩
 |p::ps,qs,xs,h,h',F,R,r,e=>by
  cases r with
  |cons r1 r2=>
   unfold MP at e
   cases z:ij h p with
   |none=>rw[z]at e;cases e
   |some a=>
    obtain⟨q,h1⟩:=a;rw[z]at e;dsimp only at e
    cases z2:MP ps h1 with
    |none=>rw[z2]at e;cases e
    |some b=>obtain⟨qs2,h2⟩:=b;rw[z2]at e;simp only[Option.some.injEq,Prod.mk.injEq]at e;obtain⟨rfl,rfl⟩:=e;obtain⟨F1,s1,R1,ra,p1⟩:=iF R r1 z;obtain⟨F2,s2,R2,rb,p2⟩:=uE R1 (s1.reps r2) z2;exact⟨F2,s1.trans s2,R2,.cons (s2.rep ra) rb,by simp[ai,p1,p2]⟩
def uW(K:W.Frag)(T:Tab)(r:V→List V→Hp→VK→Prop)(g:PV→List PV→List PO→Res PV):Prop:=
 ∀F m h H x xs p ps Q Ew,RelH K T F m h H→aH K T F m p x→ay K T F m ps xs→aG K T (aH K T) F m H Q Ew (g p ps h)→r x xs H Q
def cM(recv:List PO→PV→Bool)(g:PV→List PV→List PO→Res PV)(o:Ex)(as:Ax):Ex:=fun ρ h=>(o ρ h).bind fun p h1=>if recv h1 p=true then(as ρ h1).bind fun ps h2=>g p ps h2 else .bad
noncomputable def qt(_:List PO):PV→Bool
 |.str _=>true
 |_=>false
def dU(h:List PO)(p:PV):Bool:=(Ro h p).isSome
section
variable{X:Cx}{T:Tab}{Ew:XK}{o e:Expr}{es:List Expr}{fo:Ex}{fs:Ax}{name:Str}{apos M9:Pos}{id:String}{r:V→List V→Hp→VK→Prop}{g:PV→List PV→List PO→Res PV}
theorem pV{Ty:String}{recv:List PO→PV→Bool}(ty:∀F m h H p x,RelH X.K T F m h H→aH X.K T F m p x→recv h p=true→Wh X.K Ty x H)(pa:PlainAttrs Ty)(slot:Slot Ty name id)(WR:typeOf (.builtin id)=pure (.type "method_descriptor"))(hm:Xi X id r)(P:uW X.K T r g)
  (ho:RE X T Ew o fo) (ha:RA X T Ew (e::es) fs)
  (QL:attributeBase o name X.env (eval o X.env)=eval o X.env:=by rfl)
  (VB:((backTo M9 (starEach (e::es) X.env)).all (fun x=>!x.1)&&(backToKw M9 (keywordEach [] X.env)).all (fun x=>x.1.isSome)
   &&decide ((e::es).length+([]:List Keyword).length+(if([]:List Keyword).isEmpty then 0 else 1)<30))=true:=by rfl)
  (hline:(apos.endLine==M9.line)=true:=by rfl)(hs:sE0 X e es:=by rfl) (R6:(backTo M9 (starEach es X.env)).any (·.1)=false:=by rfl):
  RE X T Ew (.Call (.Attribute o name apos) (e::es) [] M9) (cM recv g fo fs):=by with_unfolding_all
 refine PE.imp (HV pa slot WR hm ho ha QL VB hline hs R6) ?_;rintro σ H Q ⟨F,m,ρ,h,R,p⟩;refine⟨F,m,ρ,h,R,(aG.bind p).mono ?_⟩;rintro x H1 ⟨F1,m1,h1,p1,s1,R1,r1,w1⟩
 by_cases hr:recv h1 p1=true
 ·simp only[hr,if_true]at w1;refine⟨ty _ _ _ _ _ _ R1 r1 hr,F1,m1,ρ,h1,R.of s1 R1,(aG.bind w1).mono ?_⟩;rintro xs H2 ⟨F2,m2,h2,p2,s2,R2,r2,w2⟩;exact P F2 m2 h2 H2 x xs p1 p2 Q Ew R2 (s2.rep r1) r2 w2
 ·simp only[hr,if_false]at w1;exact w1.elim
theorem Ff(F:Hp)(m:List Addr)(h:List PO)(H:Hp)(p:PV)(x:V)(R:RelH X.K T F m h H)(r:aH X.K T F m p x)(e:qt h p=true):Wh X.K "str" x H:=by
 cases r with
 |str y=>rfl
 |_=>simp[qt]at e
theorem nL(F:Hp)(m:List Addr)(h:List PO)(H:Hp)(p:PV)(x:V)(R:RelH X.K T F m h H)(r:aH X.K T F m p x)(e:dU h p=true):Wh X.K "list" x H:=by unfold dU at e;obtain⟨xs,ex⟩:=Option.isSome_iff_exists.mp e;obtain⟨a,vs,rfl,sq,_⟩:=fL R r ex;exact .inl ⟨rfl,vs,sq⟩
noncomputable def kx(sep:List Nat):List (List Nat)→List Nat
 |[]=>[]
 |[x]=>x
 |x::rest=>x++sep++kx sep rest
theorem GV(sep:List Nat):∀xs:List (List Nat),Txt.join (S sep) (xs.map S)=S (kx sep xs):=by
 have go:∀xs:List (List Nat),Str.join (S sep) (xs.map S)=S (kx sep xs):=by
  intro xs
  induction xs with
  |nil=>rfl
  |cons x r ih=>
   cases r with
   |nil=>rfl
   |cons y r=>have e:kx sep (x::y::r)=x++sep++kx sep (y::r):=rfl;rw[e,← oY,← oY,← ih];rfl
 intro xs;show Builtin.Str.glued _ _=_;rw[StrLaws.glued_eq_join];exact go xs
noncomputable def dv:List PV→Option (List (List Nat))
 |[]=>some []
 |.str l::r=>(dv r).map (l:: ·)
 |_::_=>none
theorem gz:∀{ps:List PV}{ls:List (List Nat)},dv ps=some ls→ps=ls.map PV.str
 |[],ls,e=>by simp[dv]at e;subst e;rfl
 |p::r,ls,e=>by
  cases p with
  |str l=>simp only[dv,Option.map_eq_some_iff]at e;obtain⟨ls',e1,rfl⟩:=e;rw[gz e1];rfl
  |_=>simp[dv]at e
theorem xY(ls:List (List Nat)):dv (ls.map PV.str)=some ls:=by
 induction ls with
 |nil=>rfl
 |cons l r ih=>simp[dv,ih]
theorem pT{K:W.Frag}{F:Hp}{m:List Addr}:∀{ls:List (List Nat)}{vs:List V},ay K T F m (ls.map PV.str) vs→vs=(ls.map S).map V.str
 |[],_,.nil=>rfl
 |l::r,_,.cons h t=>by cases h;rw[pT t];rfl
def lI(p:PV)(ps:List PV)(h:List PO):Res PV:=match p,ps with
 |.str sep,[q]=>match Ro h q with
  |some xs=>match dv xs with
   |some ls=>if(ls.map (·.length)).sum+ls.length * sep.length≤16777216 then .ok (.str (kx sep ls)) h else .bad
   |none=>.bad
  |none=>.bad
 |_,_=>.bad
theorem ym{K:W.Frag}:uW K T (Ep K) lI:=by
 intro F m h H x xs p ps Q Ew R rp rs w;unfold lI at w
 split at w
 ·rename_i sep q
  cases rp
  obtain⟨y,rfl,ry⟩:=rs.one
  split at w
  ·rename_i zs ez
   split at w
   ·rename_i ls el
    split at w
    ·rename_i hz;obtain⟨a,vs,rfl,sq,rr⟩:=fL R ry ez;have e1:=gz el;subst e1;rw[pT rr]at sq;refine⟨_,a,ls.map S,rfl,rfl,sq,?_,by rw[GV];exact aV w R (.str _)⟩
     have e2:(ls.map S).map (·.length)=ls.map (·.length):=by rw[List.map_map];apply List.map_congr_left;intro l _;exact fZ l
     rw[e2,List.length_map,fZ];exact hz
    ·exact w.elim
   ·exact w.elim
  ·exact w.elim
 ·exact w.elim
def bV(p:PV)(ps:List PV)(h:List PO):Res PV:=match ps with
 |[q]=>match mM h p with
  |some (i,xs)=>if xs.length<sizeLine then .ok .non (h.set i (.lst (xs++ [q])))else .bad
  |none=>.bad
 |_=>.bad
theorem ju{K:W.Frag}:uW K T wV bV:=by
 intro F m h H x xs p ps Q Ew R rp rs w;unfold bV at w
 split at w
 ·obtain⟨y,rfl,ry⟩:=rs.one
  split at w
  ·rename_i i zs el
   split at w
   ·rename_i hz;obtain⟨a,vs,rfl,em,hF,hH,rr⟩:=qh R rp el;exact⟨a,vs,y,rfl,rfl,hH,by rw[← rr.length];exact hz,Aq w R em hF hH (rr.append (.cons ry .nil)) .non⟩
   ·exact w.elim
  ·exact w.elim
 ·exact w.elim
end
structure wj(K:W.Frag)(T:Tab)(J:It)(xs:List PV)(F:Hp)(m:List Addr)(H:Hp):Prop where
 go:∀(i:Nat) F1 m1 h1 H1,bp F m H F1 m1 H1→RelH K T F1 m1 h1 H1→i<xs.length→J.go i H1
 Vi:∀(i:Nat) F1 m1 h1 H1 v H2,bp F m H F1 m1 H1→RelH K T F1 m1 h1 H1→i<xs.length→J.Vi i H1 v H2→∃F2 m2 p,bp F1 m1 H1 F2 m2 H2∧RelH K T F2 m2 h1 H2∧xs[i]? =some p∧aH K T F2 m2 p v
 stop:∀F1 m1 h1 H1,bp F m H F1 m1 H1→RelH K T F1 m1 h1 H1→J.stop xs.length H1
@[irreducible] def RI(X:Cx)(T:Tab)(Ew:XK)(tg e:Expr)(f:Ax):Prop:=PI X tg e (fun σ H R=>∃F m ρ h,gP X.K T F m ρ h σ H∧aG X.K T (fun F m xs J=>∀H,wj X.K T J xs F m H) F m H R Ew (f ρ h))
section
variable{K:W.Frag}{T:Tab}{F H:Hp}{m:List Addr}
theorem DE(lo:Int)(n:Nat):wj K T (Ye lo n) ((List.range n).map fun i=>PV.int (lo+(i:Nat))) F m H:=by
 refine⟨fun i F1 m1 h1 H1 s R hi=>by show i<n;simpa using hi,fun i F1 m1 h1 H1 v H2 s R hi y=>?_,fun F1 m1 h1 H1 s R=>by show n≤_;simp⟩;obtain⟨rfl,rfl⟩:=y;have Sy:i<n:=by simpa using hi
 exact⟨F1,m1,_,.refl,R,by simp[Sy],.int _⟩
theorem DC(l:List Nat):wj K T (Its (S l)) (l.map fun c=>PV.str [c]) F m H:=by
 refine⟨fun i F1 m1 h1 H1 s R hi=>by show i<(S l).cps.size;simpa[S]using hi,fun i F1 m1 h1 H1 v H2 s R hi y=>?_,fun F1 m1 h1 H1 s R=>by show _=(S l).cps.size;simp[S]⟩;obtain⟨rfl,c,hc,rfl⟩:=y;have VD:l[i]? =some c:=by simpa[S]using hc
 exact⟨F1,m1,_,.refl,R,by simp[VD],.str [c]⟩
theorem rX{a:Addr}{xs:List PV}{vs:List V}(e:M_ K F a vs)(r:ay K T F m xs vs):wj K T (Z1 K a) xs F m H:=by
 have at':∀{F1:Hp}{m1:List Addr}{h1:List PO}{H1:Hp},bp F m H F1 m1 H1→RelH K T F1 m1 h1 H1→M_ K H1 a vs:=fun s R=>R.same.seq (s.fz.seq e);refine⟨fun i F1 m1 h1 H1 s R hi=>?_,fun i F1 m1 h1 H1 v H2 s R hi y=>?_,fun F1 m1 h1 H1 s R=>⟨vs,at' s R,by rw[r.length];exact acg _⟩⟩
 ·rw[r.length]at hi;exact⟨vs,vs[i],at' s R,List.getElem?_eq_getElem hi⟩
 ·obtain⟨rfl,y⟩:=y;obtain⟨v',h1,h2⟩:=r.get (List.getElem?_eq_getElem hi);have:=y vs (at' s R);rw[h1]at this;cases this;exact⟨F1,m1,_,.refl,R,List.getElem?_eq_getElem hi,s.rep h2⟩
theorem DB{a:Addr}{xs:List PV}{vs:List V}(e:NP K F a vs)(r:ay K T F m xs vs):wj K T (Z0 K a) xs F m H:=by
 have at':∀{F1:Hp}{m1:List Addr}{h1:List PO}{H1:Hp},bp F m H F1 m1 H1→RelH K T F1 m1 h1 H1→NP K H1 a vs:=fun s R=>R.same.Qs (s.fz.Qs e);refine⟨fun i F1 m1 h1 H1 s R hi=>?_,fun i F1 m1 h1 H1 v H2 s R hi y=>?_,fun F1 m1 h1 H1 s R=>⟨vs,at' s R,by rw[r.length];exact acg _⟩⟩
 ·rw[r.length]at hi;exact⟨vs,vs[i],at' s R,List.getElem?_eq_getElem hi⟩
 ·obtain⟨rfl,y⟩:=y;obtain⟨v',h1,h2⟩:=r.get (List.getElem?_eq_getElem hi);have:=y vs (at' s R);rw[h1]at this;cases this;exact⟨F1,m1,_,.refl,R,List.getElem?_eq_getElem hi,s.rep h2⟩
end
section
variable{X:Cx}{T:Tab}{Ew:XK}{tg a b:Expr}{fa fb:Ex}{pos p0:Pos}
def fP(f:Ax):Ax:=fun ρ h=>(f ρ h).bind fun ps h1=>match ps with
 |[.int j]=>if QM 4611686018427387904 j=true then .ok ((List.range j.toNat).map fun i=>PV.int (0+(i:Nat))) h1 else .bad
 |_=>.bad
theorem mn{f:Ax}(hg:Gl X "range")(hm:X.mg "range"=none)(ha:RA X T Ew [a] f)(hs:starEach [a] X.env= [(false,eval a X.env)]:=by rfl):RI X T Ew tg (.Call (.Name "range" p0) [a] [] pos) (fP f):=by with_unfolding_all
 intro pins s σ H R I ⟨F,m,ρ,h,RR,p⟩;refine yr hg hm ha hs pins s σ H R I ⟨F,m,ρ,h,RR,(aG.bind p).mono ?_⟩;rintro xs H1 ⟨F1,m1,h1,ps,s1,R1,r1,w1⟩
 split at w1
 ·rename_i j;obtain⟨x,rfl,rx⟩:=r1.one
  cases rx
  split at w1
  ·rename_i hz;have hz':=cT.mp hz;exact⟨j,rfl,by omega,by omega,aG.here w1 R1 fun H=>DE 0 _⟩
  ·exact w1.elim
 ·exact w1.elim
def jq(p:PV)(h:List PO):Res (List PV):=match p with
 |.str l=>.ok (l.map fun c=>PV.str [c]) h
 |.tup xs=>.ok xs h
 |.lst xs=>.ok xs h
 |.O7 xs=>.ok xs h
 |p=>match ij h p with
  |some (.lst xs,h2)=>.ok xs h2
  |_=>.bad
def iJ(f:Ex):Ax:=fun ρ h=>(f ρ h).bind jq
theorem zP(ha:RE X T Ew a fa):RI X T Ew tg a (iJ fa):=by with_unfolding_all
 intro pins s σ H R I ⟨F,m,ρ,h,RR,p⟩;unfold iJ at p
 have lst:(∀p1 h1,fa ρ h=.ok p1 h1→(∀l,p1≠.str l)∧(∀l,p1≠.tup l))→wpAny (model X.prog X.w) X.A (eval a X.env) (fun v s1=>wpAny (model X.prog X.w) X.A (pyIter v) (PIE X pins σ tg R) X.xe s1) X.xe s:=fun YW=>by
  refine xh ha pins s σ H R I ⟨F,m,ρ,h,RR,?_⟩
  cases q:fa ρ h with
  |bad=>rw[q]at p;exact p
  |exc e h'=>rw[q]at p;exact p
  |ok p1 h1=>
   obtain⟨n1,n2⟩:=YW p1 h1 q;rw[q]at p;intro F1 m1 H1 x s1 R1 r1;have w1:=aG.step s1 (show aG X.K T _ F m H R Ew (jq p1 h1)from p);unfold jq at w1
   split at w1
   ·exact absurd rfl (n1 _)
   ·exact absurd rfl (n2 _)
   ·cases r1 with
    |lst ef rr=>exact⟨_,rfl,⟨_,M_.of (R1.same _ _ ef)⟩,aG.here w1 R1 fun H=>rX (M_.of ef) rr⟩
   ·cases r1 with
    |O7 ef rr=>exact⟨_,rfl,⟨_,R1.same.seq ef⟩,aG.here w1 R1 fun H=>rX ef rr⟩
   ·split at w1
    ·rename_i xs h2 ef;obtain⟨F2,s2,R2,r2,_⟩:=iF R1 r1 ef
     cases r2 with
     |lst ef rr=>exact⟨_,rfl,⟨_,M_.of (R2.same _ _ ef)⟩,w1 F2 m1 H1 _ s2 R2 fun H=>rX (M_.of ef) rr⟩
    ·exact w1.elim
 cases q:fa ρ h with
 |bad=>rw[q]at p;exact p.elim
 |exc e h'=>exact lst fun p1 h1 z=>by rw[q]at z;cases z
 |ok p1 h1=>
  by_cases SJ:∃l,p1=.str l
  ·obtain⟨l,rfl⟩:=SJ;refine FT ha pins s σ H R I ⟨F,m,ρ,h,RR,?_⟩;rw[q]at p ⊢;intro F1 m1 H1 x s1 R1 r1;have w1:=aG.step s1 (show aG X.K T _ F m H R Ew (jq (.str l) h1)from p)
   cases r1
   exact⟨_,rfl,aG.here w1 R1 fun H=>DC l⟩
  ·by_cases Va:∃l,p1=.tup l
   ·obtain⟨l,rfl⟩:=Va;refine FS ha pins s σ H R I ⟨F,m,ρ,h,RR,?_⟩;rw[q]at p ⊢;intro F1 m1 H1 x s1 R1 r1;have w1:=aG.step s1 (show aG X.K T _ F m H R Ew (jq (.tup l) h1)from p)
    cases r1 with
    |tup ef rr=>exact⟨_,rfl,⟨_,R1.same.Qs ef⟩,aG.here w1 R1 fun H=>DB ef rr⟩
   ·exact lst fun p2 h2 z=>by rw[q]at z;cases z;exact⟨fun l z=>SJ ⟨l,z⟩,fun l z=>Va ⟨l,z⟩⟩
noncomputable def cJ(g8:List Nat)(ρ:Ev):Ev:=g8.map fun i=>(ρ[i]?).getD none
def bG(tt:Tx)(te:Ex)(cp:Ev):List PV→List PO→Res (List PV)
 |[],h=>.ok [] h
 |p::r,h=>(tt (some p::cp) h).bind fun b h1=>if b=true then(te (some p::cp) h1).bind fun v h2=>(bG tt te cp r h2).bind fun vs h3=>.ok (v::vs) h3 else bG tt te cp r h1
def eN(g8:List Nat)(it:Ax)(tt:Tx)(te:Ex):Ax:=fun ρ h=>(it ρ h).bind fun xs h1=>if xs.length<sizeLine then bG tt te (cJ g8 ρ) xs h1 else .bad
@[irreducible] def Wf(X:Cx)(T:Tab)(Ew:XK)(ifs:List Expr)(f:Tx):Prop:=Xg X ifs (wT X T Ew f)
noncomputable def dR:Tx:=fun _ h=>.ok true h
theorem rf:Wf X T Ew [] dR:=by with_unfolding_all exact(
  (by rintro pins s σ H Q I ⟨F,m,ρ,h,R,p⟩;exact FX pins s σ H Q I (aG.here p R.toRelH rfl)))
theorem Fz{c:Expr}{f:Tx}(h:RT X T Ew c f):Wf X T Ew [c] f:=by with_unfolding_all exact(
  FW h)
theorem kX.cap{K:W.Frag}{F:Hp}{m:List Addr}{ρ:Ev}{σ:St}(r:kX K T F m ρ σ)(g8:List Nat){p:PV}{v:V}(rp:aH K T F m p v):kX K T F m (some p::cJ g8 ρ) (some v::gO g8 σ):=by
 refine⟨by simp[cJ,gO],fun i q e=>?_⟩
 cases i with
 |zero=>simp at e;subst e;exact⟨v,rfl,rp⟩
 |succ j=>
  simp only[List.getElem?_cons_succ,cJ,gO,List.getElem?_map]at e ⊢
  cases z:g8[j]? with
  |none=>rw[z]at e;simp at e
  |some k=>
   rw[z]at e;simp only[Option.map_some,Option.some.injEq]at e ⊢
   have e':ρ[k]? =some (some q):=by
    cases y:ρ[k]? with
    |none=>rw[y]at e;cases e
    |some o=>rw[y]at e;simpa using e
   obtain⟨u,h1,h2⟩:=r.2 k q e';exact⟨u,by rw[h1];rfl,h2⟩
theorem oU{g8:List Nat}{it:Ax}{tt:Tx}{te:Ex}{σ:St}{H:Hp}{Q:VK}{g:List PV→List PO→Res PV}(hg:∀F m h H ps vs,RelH X.K T F m h H→ay X.K T F m ps vs→aG X.K T (aH X.K T) F m H Q Ew (g ps h)→∀D,H D=none→Q (.ref D) (upd H D (.lst vs)))
  (w:wE X T Ew (cN g (eN g8 it tt te)) σ H Q):zu g8 (fun σ H R=>∃F m ρ h,gP X.K T F m ρ h σ H∧aG X.K T (fun F m xs J=>∀H,wj X.K T J xs F m H) F m H R Ew (it ρ h)) (wT X T Ew tt) (wE X T Ew te) σ H Q:=by
 obtain⟨F,m,ρ,h,R,p⟩:=w
 have p0:aG X.K T (aH X.K T) F m H Q Ew ((it ρ h).bind fun xs h1=>(if xs.length<sizeLine then bG tt te (cJ g8 ρ) xs h1 else .bad).bind g):=by
  have:(eN g8 it tt te ρ h).bind g=(it ρ h).bind fun xs h1=>(if xs.length<sizeLine then bG tt te (cJ g8 ρ) xs h1 else .bad).bind g:=by
   unfold eN
   cases it ρ h<;>rfl
  rw[← this];exact p
 refine⟨F,m,ρ,h,R,(aG.bind p0).mono ?_⟩;rintro J H1 ⟨F1,m1,h1,xs,s1,R1,G,w1⟩
 by_cases hz:xs.length<sizeLine
 ·rw[if_pos hz]at w1
  refine⟨fun i n acc H2=>n=xs.length - i∧i≤xs.length∧acc.length≤i∧∃F2 m2 h2 as,bp F1 m1 H1 F2 m2 H2∧RelH X.K T F2 m2 h2 H2∧ay X.K T F2 m2 as acc∧
   aG X.K T (aH X.K T) F2 m2 H2 Q Ew (((bG tt te (cJ g8 ρ) (xs.drop i) h2).bind fun vs h3=>g (as++vs) h3)),⟨_,rfl,Nat.zero_le _,acg _,F1,m1,h1,[],.refl,R1,.nil,by simpa using w1⟩,?_⟩
  rintro i n acc H2 ⟨rfl,hi,hac,F2,m2,h2,as,s2,R2,ra,w2⟩
  rcases Nat.lt_or_ge i xs.length with Rc|W2
  ·right
   refine⟨(G H1).go i F2 m2 h2 H2 s2 R2 Rc,by omega,fun v H3 y=>?_⟩;obtain⟨F3,m3,p,s3,R3,ep,rp⟩:=(G H1).Vi i F2 m2 h2 H2 v H3 s2 R2 Rc y
   have ed:xs.drop i=p::xs.drop (i+1):=by rw[List.drop_eq_getElem_cons Rc];rw[List.getElem?_eq_getElem Rc,Option.some.injEq]at ep;rw[ep]
   rw[ed]at w2;have w3:=aG.step s3 w2;have eE:kX X.K T F3 m3 (some p::cJ g8 ρ) (some v::gO g8 σ):=(s3.env (s2.env (s1.env R.env))).cap g8 rp
   have e0:((bG tt te (cJ g8 ρ) (p::xs.drop (i+1)) h2).bind fun vs h3=>g (as++vs) h3)=(tt (some p::cJ g8 ρ) h2).bind fun b h1=>
     if b=true then(te (some p::cJ g8 ρ) h1).bind fun v h2=>(bG tt te (cJ g8 ρ) (xs.drop (i+1)) h2).bind fun vs h3=>g (as++v::vs) h3 else(bG tt te (cJ g8 ρ) (xs.drop (i+1)) h1).bind fun vs h3=>g (as++vs) h3:=by
    rw[bG]
    cases tt (some p::cJ g8 ρ) h2 with
    |bad=>rfl
    |exc e h=>rfl
    |ok b h1=>
     cases b with
     |false=>rfl
     |true=>
      simp only[Res.Mj,if_true]
      cases te (some p::cJ g8 ρ) h1 with
      |bad=>rfl
      |exc e h=>rfl
      |ok v h4=>
       simp only[Res.Mj]
       cases bG tt te (cJ g8 ρ) (xs.drop (i+1)) h4<;>rfl
   rw[e0]at w3;refine⟨F3,m3,_,h2,⟨R3,eE⟩,(aG.bind w3).mono ?_⟩;rintro b H4 ⟨F4,m4,h4,b',s4,R4,eb,w4⟩
   cases eb
   have Wl:bp F1 m1 H1 F4 m4 H4:=(s2.trans s3).trans s4
   cases b with
   |false=>refine uz ⟨xs.length - (i+1),by omega,rfl,by omega,by omega,F4,m4,h4,as,Wl,R4,s4.reps (s3.reps ra),?_⟩;simpa using w4
   |true=>
    simp only[if_true]at w4;refine rQ ⟨F4,m4,_,h4,⟨R4,s4.env eE⟩,(aG.bind w4).mono ?_⟩;rintro y H5 ⟨F5,m5,h5,q,s5,R5,rq,w5⟩;refine⟨xs.length - (i+1),by omega,rfl,by omega,by rw[List.length_append];simp;omega,F5,m5,h5,as++ [q],Wl.trans s5,R5,(s5.reps (s4.reps (s3.reps ra))).append (.cons rq .nil),?_⟩;have:(fun vs h3=>g (as++ [q]++vs) h3)=fun vs h3=>g (as++q::vs) h3:=by funext vs h3;simp
    rw[this];exact w5
  ·left
   have e:i=xs.length:=by omega
   subst e;refine⟨(G H1).stop F2 m2 h2 H2 s2 R2,fun D hD=>?_⟩;rw[List.drop_length]at w2;have w3:aG X.K T (aH X.K T) F2 m2 H2 Q Ew (g as h2):=by simpa[bG]using w2
   exact hg F2 m2 h2 H2 as acc R2 ra w3 D hD
 ·rw[if_neg hz]at w1;exact w1.elim
noncomputable def QF(ps:List PV)(h:List PO):Res PV:=.ok (.lst ps) h
noncomputable def Do(ps:List PV)(h:List PO):Res PV:=.ok (.ref h.length) (h++ [.lst ps])
theorem gS{elt iter:Expr}{x:Str}{px:Pos}{ifs:List Expr}{scope:Scope}{it:Ax}{tt:Tx}{te:Ex}{M:List Str}(g8:List Nat)(NZ:X.calm=true)(S:eX X.N X.env.scope scope g8 x M)
  (hi:RI X T Ew (.Name x px) iter it) (ht:∀cl C ex s H,Wf (dI X M scope cl C ex s H) T Ew ifs tt) (he:∀cl C ex s H,RE (dI X M scope cl C ex s H) T Ew elt te)
  (hs:∀y,foldedSetIterable iter X.env y=pure y:=by intro _;rfl):RE X T Ew (.ListComp elt [⟨.Name x px,iter,ifs,0⟩] scope pos) (cN QF (eN g8 it tt te)):=by with_unfolding_all exact(
 PE.imp (xj (tt:=wT X T Ew tt) (te:=wE X T Ew te) g8 NZ S hi ht he hs) fun σ H Q w=>oU (fun F m h H ps vs R r w D hD=>fU w R r D hD) w)
end
inductive SR where
 |nx (ρ:Ev) (h:List PO)|rt (v:PV) (h:List PO)|bk (ρ:Ev) (h:List PO)|ct (ρ:Ev) (h:List PO)|exc (e:PV) (h:List PO)|bad
abbrev Sx:=Ev→List PO→SR
def eW(K:W.Frag)(T:Tab)(F:Hp)(m:List Addr)(H:Hp)(D:pj)(Ew:XK):SR→Prop
 |.nx ρ h=>∀F' m' H' σ',bp F m H F' m' H'→gP K T F' m' ρ h σ' H'→D.nx σ' H'
 |.bk ρ h=>∀F' m' H' σ',bp F m H F' m' H'→gP K T F' m' ρ h σ' H'→D.bk σ' H'
 |.ct ρ h=>∀F' m' H' σ',bp F m H F' m' H'→gP K T F' m' ρ h σ' H'→D.ct σ' H'
 |.rt v h=>∀F' m' H' x,bp F m H F' m' H'→RelH K T F' m' h H'→aH K T F' m' v x→D.rt x H'
 |.exc v h=>∀F' m' H' cls dx,bp F m H F' m' H'→RelH K T F' m' h H'→kW K T F' m' v cls dx→Ew cls dx H'
 |.bad=>False
theorem eW.step{K:W.Frag}{T:Tab}{F F1 H H1:Hp}{m m1:List Addr}{D:pj}{Ew:XK}{r:SR}(s:bp F m H F1 m1 H1)(p:eW K T F m H D Ew r):eW K T F1 m1 H1 D Ew r:=by
 cases r with
 |nx ρ h=>exact fun F' m' H' x t=>p F' m' H' x (s.trans t)
 |bk ρ h=>exact fun F' m' H' x t=>p F' m' H' x (s.trans t)
 |ct ρ h=>exact fun F' m' H' x t=>p F' m' H' x (s.trans t)
 |rt v h=>exact fun F' m' H' x t=>p F' m' H' x (s.trans t)
 |exc v h=>exact fun F' m' H' c d t=>p F' m' H' c d (s.trans t)
 |bad=>exact p
section
variable(X:Cx)(T:Tab)(Ew:XK)
noncomputable def wS(f:Sx):TS:=fun D σ H=>∃F m ρ h,gP X.K T F m ρ h σ H∧eW X.K T F m H D Ew (f ρ h)
@[irreducible] def RS(st:Stmt)(f:Sx):Prop:=PS X st (wS X T Ew f)
@[irreducible] def RL(st:List Stmt)(f:Sx):Prop:=Q0 X st (wS X T Ew f)
end
noncomputable def bo:Sx:=fun ρ h=>.nx ρ h
noncomputable def aA(f g:Sx):Sx:=fun ρ h=>match f ρ h with
 |.nx ρ1 h1=>g ρ1 h1
 |.rt v h1=>.rt v h1
 |.bk ρ1 h1=>.bk ρ1 h1
 |.ct ρ1 h1=>.ct ρ1 h1
 |.exc v h1=>.exc v h1
 |.bad=>.bad
noncomputable def dY(f:Res PV)(k:PV→List PO→SR):SR:=match f with
 |.ok v h=>k v h
 |.exc e h=>.exc e h
 |.bad=>.bad
noncomputable def uS(f:Res Bool)(k:Bool→List PO→SR):SR:=match f with
 |.ok v h=>k v h
 |.exc e h=>.exc e h
 |.bad=>.bad
noncomputable def Bj(f:Res (List PV))(k:List PV→List PO→SR):SR:=match f with
 |.ok v h=>k v h
 |.exc e h=>.exc e h
 |.bad=>.bad
@[simp] theorem IF(v:PV)(h:List PO)(k:PV→List PO→SR):dY (.ok v h) k=k v h:=rfl
@[simp] theorem IJ(v:Bool)(h:List PO)(k:Bool→List PO→SR):uS (.ok v h) k=k v h:=rfl
noncomputable def aS(f:Ex):Sx:=fun ρ h=>dY (f ρ h) fun v h1=>.rt v h1
noncomputable def zJ:Sx:=fun _ h=>.rt .non h
def eP(f:Ex):Sx:=fun ρ h=>dY (f ρ h) fun _ h1=>.nx ρ h1
def J5(t:Tx)(f g:Sx):Sx:=fun ρ h=>uS (t ρ h) fun b h1=>if b=true then f ρ h1 else g ρ h1
def aO(i:Nat)(f:Ex):Sx:=fun ρ h=>dY (f ρ h) fun v h1=>.nx (ρ.set i (some v)) h1
section
variable{X:Cx}{T:Tab}{Ew:XK}{a b c:Expr}{fa fb:Ex}{pos:Pos}{st:Stmt}{rest:List Stmt}{f g:Sx}
theorem gf{K:W.Frag}{F H:Hp}{m:List Addr}{D:pj}{r:Res PV}{k:PV→List PO→SR}(p:eW K T F m H D Ew (dY r k)):aG K T (aH K T) F m H (fun x H1=>∃F1 m1 h1 a,bp F m H F1 m1 H1∧RelH K T F1 m1 h1 H1∧aH K T F1 m1 a x∧eW K T F1 m1 H1 D Ew (k a h1)) Ew r:=by
 cases r with
 |ok a h=>exact fun F' m' H' x s r q=>⟨F',m',h,a,s,r,q,eW.step s p⟩
 |exc e h=>exact p
 |bad=>exact p
theorem FR{K:W.Frag}{F H:Hp}{m:List Addr}{D:pj}{r:Res Bool}{k:Bool→List PO→SR}(p:eW K T F m H D Ew (uS r k)):aG K T RB F m H (fun x H1=>∃F1 m1 h1,bp F m H F1 m1 H1∧RelH K T F1 m1 h1 H1∧eW K T F1 m1 H1 D Ew (k x h1)) Ew r:=by
 cases r with
 |ok a h=>exact fun F' m' H' x s r q=>by cases q;exact⟨F',m',h,s,r,eW.step s p⟩
 |exc e h=>exact p
 |bad=>exact p
theorem FQ{K:W.Frag}{F H:Hp}{m:List Addr}{D:pj}{β:Type}{RR:Hp→List Addr→List PV→β→Prop}{r:Res (List PV)}{k:List PV→List PO→SR}(p:eW K T F m H D Ew (Bj r k)):aG K T RR F m H (fun x H1=>∃F1 m1 h1 a,bp F m H F1 m1 H1∧RelH K T F1 m1 h1 H1∧RR F1 m1 a x∧eW K T F1 m1 H1 D Ew (k a h1)) Ew r:=by
 cases r with
 |ok a h=>exact fun F' m' H' x s r q=>⟨F',m',h,a,s,r,q,eW.step s p⟩
 |exc e h=>exact p
 |bad=>exact p
theorem gl:RL X T Ew [] bo:=by with_unfolding_all exact(
  Q0.imp CQ (by rintro D σ H ⟨F,m,ρ,h,R,p⟩;exact p F m H σ .refl R))
theorem cR(h:RS X T Ew st f):RL X T Ew [st] f:=by with_unfolding_all exact(
  wY h)
theorem aX(h1:RS X T Ew st f)(h2:RL X T Ew rest g):RL X T Ew (st::rest) (aA f g):=by with_unfolding_all
 refine Q0.imp (Af h1 h2) ?_;rintro D σ H ⟨F,m,ρ,h,R,p⟩;refine⟨F,m,ρ,h,R,?_⟩
 unfold aA at p
 cases q:f ρ h with
 |nx ρ1 h1=>rw[q]at p;exact fun F' m' H' σ' s R'=>⟨F',m',ρ1,h1,R',eW.step s p⟩
 |rt v h1=>rw[q]at p;exact p
 |bk v h1=>rw[q]at p;exact p
 |ct v h1=>rw[q]at p;exact p
 |exc v h1=>rw[q]at p;exact p
 |bad=>rw[q]at p;exact p
theorem Fx(ha:RE X T Ew a fa):RS X T Ew (.Return (some a) pos) (aS fa):=by with_unfolding_all exact(
 PS.imp (FO ha) (by rintro D σ H ⟨F,m,ρ,h,R,p⟩;exact ⟨F,m,ρ,h,R,(gf p).mono (by rintro x H1 ⟨F1,m1,h1,v,s1,R1,r1,w1⟩;exact w1 F1 m1 H1 x .refl R1 r1)⟩))
theorem CA:RS X T Ew (.Return none pos) zJ:=by with_unfolding_all exact(
  PS.imp CT (by rintro D σ H ⟨F,m,ρ,h,R,p⟩;exact p F m H .non .refl R.toRelH .non))
theorem jM(ha:RE X T Ew a fa)(hs:swapsWith a none pos.line X.env=pure false:=by rfl):RS X T Ew (.Expr a pos) (eP fa):=by with_unfolding_all exact(
 PS.imp (CU ha hs) (by rintro D σ H ⟨F,m,ρ,h,R,p⟩;exact ⟨F,m,ρ,h,R,(gf p).mono (by rintro x H1 ⟨F1,m1,h1,v,s1,R1,r1,w1⟩;exact w1 F1 m1 H1 σ .refl (R.of s1 R1))⟩))
theorem lv{t:Tx}{sa sb:List Stmt}(hc:RT X T Ew c t)(ha:RL X T Ew sa f)(hb:RL X T Ew sb g):RS X T Ew (.If c sa sb pos) (J5 t f g):=by with_unfolding_all
 refine PS.imp (HP hc ha hb) ?_;rintro D σ H ⟨F,m,ρ,h,R,p⟩;refine⟨F,m,ρ,h,R,(FR p).mono ?_⟩;rintro x H1 ⟨F1,m1,h1,s1,R1,w1⟩
 cases x with
 |true=>exact rQ ⟨F1,m1,ρ,h1,R.of s1 R1,w1⟩
 |false=>exact uz ⟨F1,m1,ρ,h1,R.of s1 R1,w1⟩
theorem kX.set{K:W.Frag}{F:Hp}{m:List Addr}{ρ:Ev}{σ:St}(r:kX K T F m ρ σ)(i:Nat){p:PV}{v:V}(rp:aH K T F m p v):kX K T F m (ρ.set i (some p)) (σ.set i (some v)):=by
 refine⟨by simp[r.1],fun j q e=>?_⟩
 by_cases hj:i=j
 ·subst hj
  have hi:i<ρ.length:=by
   rcases Nat.lt_or_ge i ρ.length with z|z
   ·exact z
   ·rw[List.getElem?_eq_none (by simpa using z)]at e;cases e
  rw[List.getElem?_set_self hi]at e
  cases e
  exact⟨v,List.getElem?_set_self (by rw[← r.1];exact hi),rp⟩
 ·rw[List.getElem?_set_ne hj]at e ⊢;exact r.2 j q e
theorem Fw{i:Nat}{x:Str}{pos':Pos}(hN:X.N.Nodup)(hi:X.N[i]? =some x)(hx:Loc X.env.scope x)(ha:RE X T Ew a fa)(hs:swapsWith a (some (.Name x pos')) pos.line X.env=pure false:=by rfl)(hf:X.fn x=true∨X.env.scope.names.lookup x=some .local:=by first|exact .inl rfl|exact .inr rfl|assumption):
  RS X T Ew (.Assign [.Name x pos'] a pos) (aO i fa):=by with_unfolding_all exact(
 PS.imp (FN hN hi hx ha hs hf) (by rintro D σ H ⟨F,m,ρ,h,R,p⟩;exact ⟨F,m,ρ,h,R,(gf p).mono (by rintro v H1 ⟨F1,m1,h1,q,s1,R1,r1,w1⟩;exact w1 F1 m1 H1 _ .refl ⟨R1,(s1.env R.env).set i r1⟩)⟩))
abbrev Gx:=PV→Ev→Option Ev
@[irreducible] def RG(X:Cx)(T:Tab)(tg:Expr)(g:Gx):Prop:=PG X tg (fun v σ H Q=>∃F m ρ h p ρ',gP X.K T F m ρ h σ H∧aH X.K T F m p v∧g p ρ=some ρ'∧∀ σ',kX X.K T F m ρ' σ'→Q σ' H)
noncomputable def w6(i:Nat):Gx:=fun p ρ=>some (ρ.set i (some p))
theorem gR{i:Nat}{x:Str}{pos:Pos}(hN:X.N.Nodup)(hi:X.N[i]? =some x)(hx:Loc X.env.scope x)(hf:X.fn x=true∨X.env.scope.names.lookup x=some .local:=by first|exact .inl rfl|exact .inr rfl|assumption):RG X T (.Name x pos) (w6 i):=by with_unfolding_all
 intro pins s σ H v u Q I r ⟨F,m,ρ,h,p,ρ',R,rp,e,q⟩
 cases e
 exact ny hN hi hx hf pins s σ H v u Q I r (q _ (R.env.set i rp))
noncomputable def aN(g:Gx)(body:Sx):List PV→Sx
 |[],ρ,h=>.nx ρ h
 |p::r,ρ,h=>match g p ρ with
  |some ρ1=>match body ρ1 h with
   |.nx ρ2 h2=>aN g body r ρ2 h2
   |.ct ρ2 h2=>aN g body r ρ2 h2
   |.bk ρ2 h2=>.nx ρ2 h2
   |.rt v h2=>.rt v h2
   |.exc v h2=>.exc v h2
   |.bad=>.bad
  |none=>.bad
def gD(it:Ax)(g:Gx)(body:Sx):Sx:=fun ρ h=>Bj (it ρ h) fun xs h1=>aN g body xs ρ h1
theorem nX{tg iter:Expr}{it:Ax}{g:Gx}{body:List Stmt}(hp:PassesOwn (model X.prog X.w) X.A X.env X.xe)(hc:X.calm=true)(hi:RI X T Ew tg iter it)(hg:RG X T tg g)(hb:RL X T Ew body f)
  (hs:∀x,foldedSetIterable iter X.env x=pure x:=by intro _;rfl):RS X T Ew (.For tg iter body [] pos) (gD it g f):=by with_unfolding_all
 refine PS.imp (FP hp hc hi hg hb hs) ?_;rintro D σ H ⟨F,m,ρ,h,R,p⟩;refine⟨F,m,ρ,h,R,(FQ p).mono ?_⟩;rintro J H1 ⟨F1,m1,h1,xs,s1,R1,G,w1⟩
 refine⟨fun i n σ2 H2=>n=xs.length - i∧i≤xs.length∧∃F2 m2 ρ2 h2,bp F1 m1 H1 F2 m2 H2∧gP X.K T F2 m2 ρ2 h2 σ2 H2∧eW X.K T F2 m2 H2 D Ew (aN g f (xs.drop i) ρ2 h2),⟨_,rfl,Nat.zero_le _,F1,m1,ρ,h1,.refl,R.of s1 R1,w1⟩,?_⟩
 rintro i n σ2 H2 ⟨rfl,Sy,F2,m2,ρ2,h2,s2,R2,w2⟩
 rcases Nat.lt_or_ge i xs.length with Rc|W2
 ·right
  refine⟨(G H1).go i F2 m2 h2 H2 s2 R2.toRelH Rc,fun σ' H'=>∃m',m'<xs.length - i∧m'=xs.length - (i+1)∧i+1≤xs.length∧∃F2 m2 ρ2 h2,bp F1 m1 H1 F2 m2 H'∧gP X.K T F2 m2 ρ2 h2 σ' H'∧eW X.K T F2 m2 H' D Ew (aN g f (xs.drop (i+1)) ρ2 h2),fun σ' H' q=>q,fun v H3 y=>?_⟩;obtain⟨F3,m3,p,s3,R3,ep,rp⟩:=(G H1).Vi i F2 m2 h2 H2 v H3 s2 R2.toRelH Rc y
  have ed:xs.drop i=p::xs.drop (i+1):=by rw[List.drop_eq_getElem_cons Rc];rw[List.getElem?_eq_getElem Rc,Option.some.injEq]at ep;rw[ep]
  rw[ed]at w2;have w3:=eW.step s3 w2;unfold aN at w3
  cases q:g p ρ2 with
  |none=>rw[q]at w3;exact w3.elim
  |some ρ3=>
   rw[q]at w3;dsimp only at w3;refine⟨F3,m3,ρ2,h2,p,ρ3,⟨R3,s3.env R2.env⟩,rp,q,fun σ3 r3=>⟨F3,m3,ρ3,h2,⟨R3,r3⟩,?_⟩⟩
   cases z:f ρ3 h2 with
   |nx ρ4 h4=>rw[z]at w3;exact fun F' m' H' σ' s' R'=>⟨xs.length - (i+1),by omega,rfl,by omega,F',m',ρ4,h4,(s2.trans s3).trans s',R',eW.step s' w3⟩
   |ct ρ4 h4=>rw[z]at w3;exact fun F' m' H' σ' s' R'=>⟨xs.length - (i+1),by omega,rfl,by omega,F',m',ρ4,h4,(s2.trans s3).trans s',R',eW.step s' w3⟩
   |bk ρ4 h4=>rw[z]at w3;exact w3
   |rt v4 h4=>rw[z]at w3;exact w3
   |exc v4 h4=>rw[z]at w3;exact w3
   |bad=>rw[z]at w3;exact w3
 ·left
  have e:i=xs.length:=by omega
  subst e;rw[List.drop_length]at w2;exact⟨(G H1).stop F2 m2 h2 H2 s2 R2.toRelH,w2 F2 m2 H2 σ2 .refl R2⟩
end
inductive Out where
 |ok (v:PV)|bad
def cr(v:PV)(h:List PO):Out:=match ij h v with
 |some (q,_)=>.ok q
 |none=>.bad
def aW(f:Sx)(np n:Nat)(ps:List PV):Out:=if ps.length=np then match f (ps.map some++List.replicate (n - ps.length) none) []with
  |.nx _ _=>.ok .non
  |.rt v h=>cr v h
  |_=>.bad
 else .bad
noncomputable def U5(K:W.Frag)(T:Tab)(np:Nat)(fn:List PV→Out):Sp:=fun vs H Q _=>∃F ps v,ps.length=np∧di F H∧ay K T F [] ps vs∧fn ps=.ok v∧
 ∀F' H' x,di F F'→di H H'→di F' H'→(∀a o,F' a=some o→F a=some o∨H a=none)→aH K T F' [] v x→Q x H'
theorem Cv{K:W.Frag}{T:Tab}{np:Nat}{fn:List PV→Out}{vs:List V}{H:Hp}{Q:VK}{E:XK}(h:U5 K T np fn vs H Q E):vs.length=np:=by obtain⟨F,ps,v,e,_,r,_⟩:=h;rw[← r.length];exact e
section
variable{P:Program}{w:World}{K:W.Frag}{mg:Str→Option Value}{base:Heap}{T:Tab}
theorem yg{N:List Str}{F:Hp}{ps:List PV}{vs:List V}(r:ay K T F [] ps vs):kX K T F [] (ps.map some++List.replicate (N.length - ps.length) none) (io N vs):=by
 unfold L2.io;have hl:=r.length;refine⟨by simp[hl],fun i p e=>?_⟩;rcases Nat.lt_or_ge i ps.length with hi|hi
 ·rw[List.getElem?_append_left (by simpa using hi),List.getElem?_map]at e
  cases q:ps[i]? with
  |none=>rw[q]at e;cases e
  |some p'=>
   rw[q]at e
   cases e
   obtain⟨v,h1,h2⟩:=r.get q;exact⟨v,by rw[List.getElem?_append_left (by simp;omega),List.getElem?_map,h1];rfl,h2⟩
 ·rw[List.getElem?_append_right (by simpa using hi)]at e;rw[List.getElem?_replicate]at e
  split at e<;>cases e
theorem DI{x C_:Str}{st:Stmt}{f:Addr}{fd:FuncData}{N ps:List Str}{k:Nat}{g:Sx}(Fn:Tn K x C_ st f fd)(Sc:gY N ps (aP st))
  (hb:∀(Mg:Value)(A:Around)(outer:List Env)(s:Shared)(H:Hp)(E:XK),cX k (A.deeper (envOfC C_ (aP st) s.heap.objs.size f Mg))→
   RL (jH Py P w K mg base N C_ (aP st) f Mg A outer s H E).U7 T (fun _ _ _=>False) (dD st) g):
  dE P w K mg base Py (k+1) f fd ps (U5 K T ps.length (aW g ps.length N.length)):=by with_unfolding_all
 refine Fn.ok Sc (fun vs H Q E h=>Cv h) fun Mg A outer s H vs Q E hr h=>⟨_,hb Mg A outer s H E hr,?_⟩
 obtain⟨F,qs,v,hl,sm,r,e,q⟩:=h;have R0:gP K T F [] (qs.map some++List.replicate (N.length - qs.length) none) [] (io N vs) H:=⟨⟨sm,rfl,fun i o a h1 h2=>by simp at h1,List.nodup_nil⟩,yg r⟩
 refine⟨F,[],_,[],R0,?_⟩;unfold aW at e;rw[if_pos hl]at e;have U6:∀{F' m' H'},bp F [] H F' m' H'→di H H':=fun s b o hb=>s.fr b o hb (by simp)
 have fin:∀{F' m' H' h' p x},bp F [] H F' m' H'→RelH K T F' m' h' H'→aH K T F' m' p x→cr p h'=.ok v→Q x H':=by
  intro F' m' H' h' p x s R rp ef;unfold cr at ef
  cases z:ij h' p with
  |none=>rw[z]at ef;cases ef
  |some ab=>
   obtain⟨p2,h2⟩:=ab;rw[z]at ef
   cases ef
   obtain⟨F2,s2,R2,r2,hp⟩:=iF R rp z;refine q F2 H' x (s.fz.trans s2.fz) (U6 s) R2.same (fun a o ea=>?_) (r2.K5 hp);rcases(s.trans s2).QZ a o ea with z|z|z
   ·exact .inl z
   ·exact .inr z
   ·simp at z
 cases z:g (qs.map some++List.replicate (N.length - qs.length) none) []with
 |nx ρ h1=>
  rw[z]at e
  cases e
  exact fun F' m' H' σ' s R=>q F' H' .non s.fz (U6 s) R.same (fun a o ea=>by
   rcases s.QZ a o ea with z|z|z
   ·exact .inl z
   ·exact .inr z
   ·simp at z) .non
 |rt p h1=>rw[z]at e;exact fun F' m' H' x s R rp=>fin s R rp e
 |bk _ _=>rw[z]at e;cases e
 |ct _ _=>rw[z]at e;cases e
 |exc _ _=>rw[z]at e;cases e
 |bad=>rw[z]at e;cases e
end
def bj(fn:List PV→Out)(ps:List PV)(h:List PO):Res PV:=match MP ps h with
 |some (qs,h2)=>match fn qs with
  |.ok v=>.ok v h2
  |.bad=>.bad
 |none=>.bad
def bn(fn:List PV→Out)(as:Ax):Ex:=fun ρ h=>(as ρ h).bind (bj fn)
section
variable{X:Cx}{T:Tab}{Ew:XK}{a b e:Expr}{es:List Expr}{fa fb:Ex}{fs:Ax}{pos p0:Pos}{k:Nat}{f:Addr}{fd:FuncData}{ps:List Str}{fn:List PV→Out}{x:Str}
theorem yW{F H:Hp}{m:List Addr}{h:List PO}{Q:VK}{K:W.Frag}{np:Nat}{qs:List PV}{vs:List V}{E:XK}(S7:∀qs v,fn qs=.ok v→qs.length=np)(R:RelH K T F m h H)(r:ay K T F m qs vs)(w:aG K T (aH K T) F m H Q Ew (bj fn qs h)):U5 K T np fn vs H Q E:=by
 unfold bj at w
 cases z:MP qs h with
 |none=>rw[z]at w;exact w.elim
 |some ab=>
  obtain⟨q2,h2⟩:=ab;rw[z]at w;dsimp only at w;obtain⟨F2,s2,R2,r2,hp⟩:=uE R r z
  cases y:fn q2 with
  |bad=>rw[y]at w;exact w.elim
  |ok v=>
   rw[y]at w;refine⟨F2,q2,v,S7 _ _ y,R2.same,r2.K5 hp,y,fun F' H' x a1 a2 a3 a4 rx=>?_⟩;have s3:bp F2 m H F' m H':=⟨a1,⟨[],by simp⟩,fun b o hb _=>a2 b o hb,fun b o hb=>⟨o,a2 b o hb⟩,fun i a hi e=>(by rw[List.getElem?_eq_none hi]at e;cases e),fun a o ea=>(a4 a o ea).elim .inl (fun z=>.inr (.inl z))⟩
   refine w F' m H' x (s2.trans s3) ⟨a3,R2.len,fun i o a e1 e2=>?_,R2.nd⟩ (rx.mono (di.refl _) fun i a e=>by simp at e);have q:=R2.obj i o a e1 e2
   have live:F2 a=none→(∃u,H a=some u)→F' a=none:=fun n ⟨u,hu⟩=>by
    cases z:F' a with
    |none=>rfl
    |some o=>
     rcases a4 a o z with y|y
     ·rw[n]at y;cases y
     ·rw[hu]at y;cases y
   cases o with
   |lst xs=>obtain⟨f0,ws,z,rr⟩:=q;exact⟨live f0 ⟨_,z⟩,ws,a2 _ _ z,s3.reps rr⟩
   |dct xs=>obtain⟨f0,ws,z,kk,rr⟩:=q;exact⟨live f0 ⟨_,z⟩,ws,a2 _ _ z,kk,s3.reps rr⟩
   |K3 p'=>obtain⟨r1,r3,o,r4⟩:=q;exact⟨s3.rep r1,r3,o,a1 _ _ r4⟩
theorem CJ(F:dE X.prog X.w X.K X.mg X.base Py k f fd ps (U5 X.K T ps.length fn))(S7:∀qs v,fn qs=.ok v→qs.length=ps.length)(hr:cX k X.A)(hg:Gl X x)(hm:X.mg x=some (.ref f))(hk:W.keepIn X.K (.ref f)=true)(hb:fh X.K fd ps [])
  (ha:RA X T Ew (e::es) fs) (O1:nD0 x:=by decide)(he:sE0 X e es:=by rfl) (Ng:sP0 X es pos:=by rfl):
  RE X T Ew (.Call (.Name x p0) (e::es) [] pos) (bn fn fs):=by with_unfolding_all
 refine PE.imp (xk F hr hg hm hk hb .nil HZ ha O1 he Ng) ?_;rintro σ H Q ⟨F,m,ρ,h,R,p⟩;refine⟨F,m,ρ,h,R,(aG.bind p).mono ?_⟩;rintro vs H1 ⟨F1,m1,h1,qs,s1,R1,r1,w1⟩
 rw[List.append_nil];exact yW S7 R1 r1 w1
theorem zM{f:Sx}{np n:Nat}:∀qs v,aW f np n qs=.ok v→qs.length=np:=fun qs v h=>by
 unfold aW at h
 split at h
 ·assumption
 ·cases h
theorem tY{u:Value}{i:Int}(hg:Gl X x)(hm:X.mg x=some u)(r:bB (.int i) u)(hd:nD0 x:=by decide):RE X T Ew (.Name x pos) (cK (.int i)):=by with_unfolding_all exact(
  fT (rB hg hm r hd) fun _ _=>.int i)
end
noncomputable def lG(kvs:List (PK×PV))(k:PK)(v:PV):List (PK×PV):=
 if(kvs.any fun kv=>decide (kv.1=k))=true then kvs.map (fun kv=>if kv.1=k then(kv.1,v)else kv)else kvs++ [(k,v)]
section
variable{K:W.Frag}{T:Tab}{F H:Hp}{m:List Addr}
def gu(K:W.Frag)(T:Tab)(F:Hp)(m:List Addr)(kps:List (PK×PV))(kvs:List (Key×V)):Prop:=kvs.map (·.1)=kps.map (fun p=>tk p.1)∧ay K T F m (kps.map (·.2)) (kvs.map (·.2))
theorem gu.nil:gu K T F m [] []:=⟨rfl,.nil⟩
theorem gu.any(k:PK):∀{kps:List (PK×PV)}{kvs:List (Key×V)},kvs.map (·.1)=kps.map (fun p=>tk p.1)→(kvs.any fun kv=>decide (kv.1=tk k))=kps.any fun kv=>decide (kv.1=k)
 |[],[],_=>rfl
 |[],_::_,h=>by simp at h
 |_::_,[],h=>by simp at h
 |(k1,p1)::kps,(k2,v2)::kvs,h=>by
  simp only[List.map_cons,List.cons.injEq]at h;rw[List.any_cons,List.any_cons,gu.any k h.2]
  congr 1
  rw[h.1]
  by_cases e:k1=k
  ·subst e;simp
  ·have:¬ tk k1=tk k:=fun z=>e (vm z);simp[e,this]
theorem gu.repl{k:PK}{p:PV}{v:V}(r:aH K T F m p v):∀{kps:List (PK×PV)}{kvs:List (Key×V)},gu K T F m kps kvs→gu K T F m (kps.map fun kv=>if kv.1=k then(kv.1,p)else kv) (kvs.map fun kv=>if kv.1=tk k then(kv.1,v)else kv)
 |[],[],_=>.nil
 |[],_::_,h=>by have:=h.1;simp at this
 |_::_,[],h=>by have:=h.1;simp at this
 |(k1,p1)::kps,(k2,v2)::kvs,⟨h1,h2⟩=>by
  simp only[List.map_cons,List.cons.injEq]at h1 h2
  cases h2 with
  |cons a b=>
   obtain⟨i1,i2⟩:=gu.repl (k:=k) r (kps:=kps) (kvs:=kvs) ⟨h1.2,b⟩;simp only[List.map_cons]
   by_cases e:k1=k
   ·subst e;rw[if_pos h1.1,if_pos rfl];exact⟨by simp only[List.map_cons,h1.1,i1],.cons r i2⟩
   ·have e2:¬ k2=tk k:=fun z=>e (vm (h1.1.symm.trans z));rw[if_neg e2,if_neg e];exact⟨by simp only[List.map_cons,h1.1,i1],.cons a i2⟩
theorem gu.put{k:PK}{p:PV}{v:V}{kps:List (PK×PV)}{kvs:List (Key×V)}(h:gu K T F m kps kvs)(r:aH K T F m p v):gu K T F m (lG kps k p) (iW kvs (tk k) v):=by
 unfold lG iW;rw[gu.any k h.1]
 split
 ·exact h.repl r
 ·exact⟨by rw[List.map_append,List.map_append,h.1];rfl,by rw[List.map_append,List.map_append];exact h.2.append (.cons r .nil)⟩
theorem gu.merge:∀{more:List (PK×PV)}{mv:List (Key×V)}{kps:List (PK×PV)}{kvs:List (Key×V)},gu K T F m more mv→gu K T F m kps kvs→gu K T F m (more.foldl (fun acc kv=>lG acc kv.1 kv.2) kps) (gI kvs mv)
 |[],[],_,_,_,h=>h
 |[],_::_,_,_,h,_=>by have:=h.1;simp at this
 |_::_,[],_,_,h,_=>by have:=h.1;simp at this
 |(k1,p1)::more,(k2,v2)::mv,kps,kvs,⟨h1,h2⟩,h=>by
  simp only[List.map_cons,List.cons.injEq]at h1 h2
  cases h2 with
  |cons a b=>show gu K T F m (more.foldl _ (lG kps k1 p1)) (gI (iW kvs k2 v2) mv);rw[h1.1];exact gu.merge ⟨h1.2,b⟩ (h.put a)
end
def jk:List (Ex×Ex)→Ev→List PO→Res (List (PK×PV))
 |[],_,h=>.ok [] h
 |(a,b)::r,ρ,h=>(a ρ h).bind fun x h1=>(b ρ h1).bind fun y h2=>match lJ x with
  |some k=>(jk r ρ h2).bind fun ps h3=>.ok ((k,y)::ps) h3
  |none=>.bad
def mkD(ps:List (PK×PV)):List (PK×PV):=ps.foldl (fun acc kv=>lG acc kv.1 kv.2) []
def uO(fs:List (Ex×Ex)):Ex:=fun ρ h=>(jk fs ρ h).bind fun ps h1=>.ok (.dct (mkD ps)) h1
@[irreducible] def Xe(X:Cx)(T:Tab)(Ew:XK)(pos:Pos)(keys:List (Option Expr))(values:List Expr)(fs:List (Ex×Ex)):Prop:=Xf X pos keys values (fs.map fun p=>(wE X T Ew p.1,wE X T Ew p.2))
section
variable{X:Cx}{T:Tab}{Ew:XK}{a b k v o e f:Expr}{fa fb fo:Ex}{pos apos M9:Pos}{keys:List (Option Expr)}{values:List Expr}{fs:List (Ex×Ex)}
theorem CB:Xe X T Ew pos [] [] []:=by with_unfolding_all exact(
  CY)
theorem lC(hk:RE X T Ew k fa)(hv:RE X T Ew v fb)(hr:Xe X T Ew pos keys values fs):Xe X T Ew pos (some k::keys) (v::values) ((fa,fb)::fs):=by with_unfolding_all exact(
  Ap hk hv hr)
theorem pZ{σ:St}{ρ:Ev}:∀(fs:List (Ex×Ex)){F:Hp}{m:List Addr}{h:List PO}{H:Hp}{Q:List (V×V)→Hp→Prop},gP X.K T F m ρ h σ H→
  aG X.K T (fun F m ps vs=>∃kvs:List (Key×V),vs=kvs.map (fun kv=>(kV kv.1,kv.2))∧gu X.K T F m ps kvs) F m H Q Ew (jk fs ρ h)→qL (fs.map fun p=>(wE X T Ew p.1,wE X T Ew p.2)) σ H Q
 |[],F,m,h,H,Q,R,p=>aG.here p R.toRelH ⟨[],rfl,.nil⟩
 |(fa,fb)::fs,F,m,h,H,Q,R,p=>by
  refine⟨F,m,ρ,h,R,(aG.bind p).mono ?_⟩;rintro x H1 ⟨F1,m1,h1,px,s1,R1,r1,w1⟩;refine⟨F1,m1,ρ,h1,R.of s1 R1,(aG.bind w1).mono ?_⟩;rintro y H2 ⟨F2,m2,h2,py,s2,R2,r2,w2⟩
  cases q:lJ px with
  |none=>rw[q]at w2;exact w2.elim
  |some kk=>rw[q]at w2;refine pZ fs ((R.of s1 R1).of s2 R2) ((aG.bind w2).mono ?_);rintro vs H3 ⟨F3,m3,h3,ps,s3,R3,⟨kvs,e3,r3⟩,w3⟩;subst e3;have ex:=jU (s2.rep r1) q;subst ex;exact aG.here w3 R3 ⟨(tk kk,y)::kvs,rfl,by simp only[List.map_cons,r3.1],.cons (s3.rep r2) r3.2⟩
theorem kW.mono{K:W.Frag}{T:Tab}{F F':Hp}{m m':List Addr}{e:PV}{cls:Value}{dx:Option Addr}(h:kW K T F m e cls dx)(hF:di F F')(hm:∀(i:Nat)(a:Addr),m[i]? =some a→m'[i]? =some a):kW K T F' m' e cls dx:=by
 unfold kW at h ⊢
 split at h
 ·exact h
 ·obtain⟨Ca,d,y,h1,h2,h3,h4,h5⟩:=h;exact⟨Ca,d,y,h1,h2,h3,hF _ _ h4,h5.mono hF hm⟩
 ·exact h.elim
theorem sw{F F2 H H2:Hp}{m m2:List Addr}{p:Addr}{o u:HO}{h2:List PO}(R:∀a o,F a=some o→H a=some o)(hp:H p=none)(s:bp F m (upd H p o) F2 m2 H2)(R2:RelH X.K T F2 m2 h2 H2)(hm:p∉m):H2 p=some o∧F2 p=none∧p∉m2∧
  bp F m H (upd F2 p u) m2 (upd H2 p u)∧RelH X.K T (upd F2 p u) m2 h2 (upd H2 p u):=by
 have e1:H2 p=some o:=s.fr p o aJ hm
 have hF:F p=none:=by
  cases q:F p with
  |none=>rfl
  |some z=>rw[R p z q]at hp;cases hp
 have e2:F2 p=none:=by
  cases q:F2 p with
  |none=>rfl
  |some z=>
   rcases s.QZ p z q with y|y|y
   ·rw[hF]at y;cases y
   ·rw[aJ]at y;cases y
   ·exact absurd y hm
 have e3:p∉m2:=fun z=>by
  rcases s.mem z with y|y
  ·exact hm y
  ·rw[aJ]at y;cases y
 have sF:di F2 (upd F2 p u):=fR e2 u;refine⟨e1,e2,e3,⟨s.fz.trans sF,s.pre,fun b z hb n=>?_,fun b z hb=>?_,fun i a hi ea=>?_,fun a z ea=>?_⟩,⟨fun b z hb=>?_,R2.len,fun i ob a h1 Va=>?_,R2.nd⟩⟩
 ·have S9:b≠p:=aD hb hp;rw[ak S9];exact s.fr b z (by rw[ak S9];exact hb) n
 ·have S9:b≠p:=aD hb hp;obtain⟨z',ez⟩:=s.dom b z (by rw[ak S9];exact hb);exact⟨z',by rw[ak S9];exact ez⟩
 ·have q:=s.new i a hi ea;have S9:a≠p:=fun z=>by rw[z,aJ]at q;cases q
  rw[ak S9]at q;exact q
 ·by_cases ha:a=p
  ·subst ha;exact .inr (.inl hp)
  ·rw[ak ha]at ea;rcases s.QZ a z ea with y|y|y
   ·exact .inl y
   ·rw[ak ha]at y;exact .inr (.inl y)
   ·exact .inr (.inr y)
 ·by_cases ha:b=p
  ·subst ha;rw[aJ]at hb ⊢;exact hb
  ·rw[ak ha]at hb ⊢;exact R2.same b z hb
 ·have VF:a≠p:=fun z=>e3 (by rw[← z];exact List.mem_of_getElem? Va);have q:=R2.obj i ob a h1 Va
  cases ob with
  |lst xs=>obtain⟨f0,ws,z,rr⟩:=q;exact⟨by rw[ak VF];exact f0,ws,by rw[ak VF];exact z,rr.mono sF fun _ _ h=>h⟩
  |dct xs=>obtain⟨f0,ws,z,kk,rr⟩:=q;exact⟨by rw[ak VF];exact f0,ws,by rw[ak VF];exact z,kk,rr.mono sF fun _ _ h=>h⟩
  |K3 p'=>obtain⟨r1,r3,o,r4⟩:=q;exact⟨r1.mono sF fun _ _ h=>h,r3,o,sF _ _ r4⟩
theorem RelH.fresh{K:W.Frag}{F H:Hp}{m:List Addr}{h:List PO}(R:RelH K T F m h H){p:Addr}(hp:H p=none):p∉m:=fun z=>by
 obtain⟨i,e⟩:=List.mem_iff_getElem?.mp z
 have hi:i<h.length:=by
  rw[R.len];rcases Nat.lt_or_ge i m.length with q|q
  ·exact q
  ·rw[List.getElem?_eq_none q]at e;cases e
 have q:=R.obj i _ p (List.getElem?_eq_getElem hi) e
 cases ho:h[i]with
 |lst xs=>rw[ho]at q;obtain⟨_,vs,z,_⟩:=q;rw[hp]at z;cases z
 |dct xs=>rw[ho]at q;obtain⟨_,vs,z,_⟩:=q;rw[hp]at z;cases z
 |K3 xs=>rw[ho]at q;obtain⟨_,_,o,z⟩:=q;rw[R.same _ _ z]at hp;cases hp
theorem zR{F H:Hp}{m:List Addr}{ρ:Ev}{h:List PO}{σ:St}(R:gP X.K T F m ρ h σ H){p:Addr}(hp:H p=none)(o:HO):gP X.K T F m ρ h σ (upd H p o):=by
 have hm:=R.toRelH.fresh hp;refine⟨⟨fun b u e=>?_,R.len,fun i ob a h1 h2=>?_,R.nd⟩,R.env⟩
 ·rw[ak (aD (R.same _ _ e) hp)];exact R.same b u e
 ·have VF:a≠p:=fun z=>hm (by rw[← z];exact List.mem_of_getElem? h2);have q:=R.obj i ob a h1 h2
  cases ob with
  |lst xs=>obtain⟨f0,ws,z,rr⟩:=q;exact⟨f0,ws,by rw[ak VF];exact z,rr⟩
  |dct xs=>obtain⟨f0,ws,z,kk,rr⟩:=q;exact⟨f0,ws,by rw[ak VF];exact z,kk,rr⟩
  |K3 p'=>exact q
theorem CI(h:Xe X T Ew pos keys values fs)(R8:keys.all (·.isSome)=true)(hl:keys.length=values.length)(h0:keys≠ [])(Wa:keys.length≤15)(Zc:fs.length=keys.length):RE X T Ew (.Dict keys values pos) (uO fs):=by with_unfolding_all
 refine PE.imp (Et (Dd h R8 hl h0 Wa)) ?_;rintro σ H Q ⟨F,m,ρ,hh,R,p⟩ pp hp;have hm:=R.toRelH.fresh hp;have R':=zR R hp (.dK [])
 have Mi:∀{fs:List (Ex×Ex)} {h ps h'},jk fs ρ h=.ok ps h'→ps.length=fs.length:=by
  intro fs
  induction fs with
  |nil=>intro h ps h' e;simp[jk]at e;rw[e.1];rfl
  |cons x r ih=>
   intro h ps h' e;obtain⟨fa,fb⟩:=x;simp only[jk]at e
   cases q1:fa ρ h with
   |bad=>rw[q1]at e;cases e
   |exc _ _=>rw[q1]at e;cases e
   |ok x1 h1=>
    rw[q1]at e;simp only[Res.Mj]at e
    cases q2:fb ρ h1 with
    |bad=>rw[q2]at e;cases e
    |exc _ _=>rw[q2]at e;cases e
    |ok y1 h2=>
     rw[q2]at e;simp only[Res.Mj]at e
     cases q3:lJ x1 with
     |none=>rw[q3]at e;cases e
     |some kk=>
      rw[q3]at e;dsimp only at e
      cases q4:jk r ρ h2 with
      |bad=>rw[q4]at e;cases e
      |exc _ _=>rw[q4]at e;cases e
      |ok ps3 h3=>
       rw[q4]at e
       cases e
       simp[ih q4]
 unfold uO at p;refine pZ fs R' ?_
 cases q:jk fs ρ hh with
 |bad=>rw[q]at p;exact p
 |exc e1 h1=>
  rw[q]at p;intro F2 m2 H2 x dx s2 R2 rx;obtain⟨e1,e2,e3,s3,R3⟩:=sw (u:=.dK []) R.same hp s2 R2 hm
  have hs:upd H2 pp (.dK [])=H2:=by
   funext b
   by_cases hb:b=pp
   ·subst hb;rw[aJ,e1]
   ·rw[ak hb]
  rw[hs]at s3 R3;exact p _ m2 H2 x dx s3 R3 (rx.mono (fR e2 _) fun _ _ h=>h)
 |ok ps h1=>
  rw[q]at p;intro F2 m2 H2 vs s2 R2 ⟨kvs,ev,rk⟩;obtain⟨e1,e2,e3,_,_⟩:=sw (u:=.dK (gI [] kvs)) R.same hp s2 R2 hm;have hkl:kvs.length=ps.length:=by have:=congrArg List.length rk.1;simpa using this
  refine⟨e1,kvs,ev,by rw[hkl,Mi q,Zc];exact Wa,?_⟩;have rm:gu X.K T F2 m2 (mkD ps) (gI [] kvs):=gu.merge rk .nil;refine .inr ⟨pp,_,aJ,fun o=>?_⟩;rw[wD];obtain⟨_,_,_,s3,R3⟩:=sw (u:=.QX o (.dK (gI [] kvs))) R.same hp s2 R2 hm;have sF:di F2 (upd F2 pp (.QX o (.dK (gI [] kvs)))):=fR e2 _;exact p _ m2 _ _ s3 R3 (.dct aJ rm.1 (rm.2.mono sF fun _ _ h=>h))
theorem xf{K:W.Frag}{T:Tab}:eV K T (fun x y H Q=>y=.non∧Q (.bl (decide (x=.non))) H) Sv:=by
 intro F m h H x y p q Q Ew R rp rq w;unfold Sv at w
 split at w
 ·cases rq;exact⟨rfl,by rw[qu rp];exact aV w R (.bl _)⟩
 ·exact w.elim
theorem kJ{K:W.Frag}{T:Tab}:eV K T (fun x y H Q=>y=.non∧Q (.bl (!decide (x=.non))) H) dQ:=by
 intro F m h H x y p q Q Ew R rp rq w;unfold dQ at w
 split at w
 ·cases rq;exact⟨rfl,by rw[qu rp];exact aV w R (.bl _)⟩
 ·exact w.elim
end
noncomputable def wG(K:W.Frag):Sp:=fun vs H Q _=>∃(a:Addr)(ns:List Int),vs= [.ref a]∧M_ K H a (ns.map V.int)∧ns.length≤63∧∀H',Q (.bl true) H'
theorem pU{K:W.Frag}{T:Tab}{F:Hp}{m:List Addr}:∀ns:List Int,ay K T F m (ns.map PV.int) (ns.map V.int)
 |[]=>.nil
 |n::r=>.cons (.int n) (pU r)
theorem ya{K:W.Frag}{T:Tab}{fn:List PV→Out}(h:∀ns:List Int,ns.length≤63→fn [.O7 (ns.map PV.int)]=.ok (.bl true)):∀vs H Q E,wG K vs H Q E→U5 K T 1 fn vs H Q E:=by
 rintro vs H Q E ⟨a,ns,rfl,sq,hl,q⟩
 refine⟨fun b=>if b=a then H a else none,[.O7 (ns.map PV.int)],.bl true,rfl,fun b o e=>?_,.cons (.O7 ?_ (pU ns)) .nil,h ns hl,fun F' H' x _ _ _ _ r=>?_⟩
 ·by_cases hb:b=a
  ·subst hb;have e':H b=some o:=by simpa using e
   exact e'
  ·have e':(none:Option HO)=some o:=by simpa[hb]using e
   cases e'
 ·rcases sq with(sq|⟨o,sq⟩)|sq
  ·exact .inl (.inl (by simpa using sq))
  ·exact .inl (.inr ⟨o,by simpa using sq⟩)
  ·exact .inr sq
 ·cases r;exact q H'
theorem Bg{l:W.OpenLaw}{k:Nat}{q:Program}{loose:List Str}{XP:(Str→Option Value)→Heap→Prop}{YP:World→Heap→Prop}{d:DefRec}{K:Params→W.Frag}{x:Str}(hn:l.most=some 63)(W4:d.params.defaults= [])(hr:cX k callerA)
  (hY:∀(w:World)(h:Heap),YP w h→(K w.params).In h)
  (F:∀(w:World)(mg:Str→Option Value)(fa:Addr)(h:Heap),(K w.params).In h→h.Ns mainGlobals mg→mg d.name=some (.ref fa)→
   ∃fd:FuncData,(∀(s:Shared)(u:Value),BindsTo s fd ⟨[u],[]⟩ [(x,u)])∧∀base:Heap,(K w.params).In base→base.Ns mainGlobals mg→dE l.prog w (K w.params) mg base Py k fa fd [x] (wG (K w.params))):
  W.WalkO q loose XP YP l.row.toRowW d [] (fun f vs=>PySem.call f vs):=
 L2.Cn (n:=63) (k:=k) (x:=x) (CX:=fun _=>Py) (sp:=fun w=>wG (K w.params)) hn (by decide) W4 hr hY F (fun _ _ a ns hl _ hS=>⟨a,ns,rfl,hS,hl,fun _=>rfl⟩) fun _ _ _ _ _ z=>z
end L3
namespace L2
open PySem PySem.Spec PyProof.Rows
end L2
namespace L3
open PySem PySem.Spec PyProof.Rows L2
end L3
namespace L2
open PySem PySem.Spec PyProof.Rows PySem.Builtin PySem.Builtin.Str
end L2
namespace L3
open PySem PySem.Spec PyProof.Rows L2
section
variable{X:Cx}{T:Tab}{Ew:XK}{pos p0:Pos}
theorem fS{x:Str}{a:Addr}{C:Nat}(hg:Gl X x)(hm:X.mg x=some (.ref a))(hT:T C=some a)(hd:nD0 x:=by decide):RE X T Ew (.Name x pos) (cK (.cls C)):=by with_unfolding_all exact(
  fT (rB (v:=.ref a) hg hm rfl hd) fun _ _=>.cls hT)
end
end L3
namespace L2
open PySem PySem.Spec PyProof.Rows PySem.Builtin
abbrev iA(b:Bool):Obj:={ cls:=.type "set",dict:=none,data:=.set #[] 0 (.fresh 0 0 b) }
section
variable{κ:Type} [DecidableEq κ]
noncomputable def pL(σ:List κ)(k:κ):List κ:=if k∈σ then σ else σ++[k]
def dH(f:Nat→κ):Nat→List κ
 |0=> []
 |n+1=>pL (dH f n) (f n)
theorem Ba{σ:List κ}{k x:κ}:x∈pL σ k↔x∈σ∨x=k:=by
 unfold pL
 split
 ·rename_i h;exact⟨.inl,fun z=>z.elim id fun e=>e▸h⟩
 ·rw[List.mem_append,List.mem_singleton]
theorem ut(σ:List κ)(k:κ):(pL σ k).length=if k∈σ then σ.length else σ.length+1:=by
 unfold pL
 split
 ·rfl
 ·rw[List.length_append,List.length_singleton]
theorem mC(f:Nat→κ)(n:Nat):(dH f n).length≤n:=by
 induction n with
 |zero=>exact acg _
 |succ n ih=>
  show(pL _ _).length≤_;rw[ut]
  split<;>omega
abbrev XH(σ:List κ)(k:κ):Bool:=decide (k∈σ)
end
section
variable{P:Program}{w:World}{A:Around}{R:Result→Shared→Prop}{it:Addr}{fp wr:List Addr}{G:Array GenState→Array GenState→Prop}{n:Nat}{Pn:Nat→Value→Prop}{St:Nat→Shared→Prop}
theorem tN{h h':Heap}{a:Addr}{f:Str→Bool}{c:Nat}(e:∀o,h.get? a=some o→h'.get? a=some o)(z:h.SetOf (strKind P w) a f c):h'.SetOf (strKind P w) a f c:=by obtain⟨o,es,ep,t,q,rest⟩:=z;exact⟨o,es,ep,t,e o q,rest⟩
theorem tO(W:WalksS P w A.in1 it fp wr G n Pn St)(a:Addr)(out:a∉fp)(f:Nat→Str)(txt:∀i v,Pn i v→∃t,v=.str (f i) t)(few:n+1<scanBound)(r:Nat):
  ∀(i:Nat)(s:Shared),i+r=n→St i s→s.heap.SetOf (strKind P w) a (XH (dH f i)) (dH f i).length→
   (∀s',Moved (a::wr) G s s'→s'.heap.SetOf (strKind P w) a (XH (dH f n)) (dH f n).length→R (.ok (.ret .none)) s')→
   codeAny (model P w) A (.builtin "set.update.loop" ⟨[.ref a,.ref it],[]⟩) R s:=by
 have aw:a∉wr:=fun z=>out (W.sub _ z);have tl:∀b∈wr,b∈a::wr:=fun _ z=>List.mem_cons_of_mem _ z
 induction r with
 |zero=>intro i s e st so k;obtain rfl:i=n:=e;apply codeAny_builtin F.entry_set_update_loop;rw[Around.under_plainId F.plain_set_update_loop _];apply wpAny_bind (m:=pyNext (.ref it));exact W.done s _ _ st fun s' mv=>wpAny_pure (k s' (mv.mono tl) (tN (fun o q=>mv.heap a o aw q) so))
 |succ r ih=>
  intro i s e st so k;apply codeAny_builtin F.entry_set_update_loop;rw[Around.under_plainId F.plain_set_update_loop _];apply wpAny_bind (m:=pyNext (.ref it));refine W.item i s _ _ (by omega) st fun v s' hv RM mv=>?_;obtain⟨t,rfl⟩:=txt i v hv;have so':=tN (h':=s'.heap) (fun o q=>mv.heap a o aw q) so;apply wpAny_bind (m:=holding [Value.str (f i) t] (setAdd a (.str (f i) t)));apply wpAny_holding;unfold setAdd;apply wpAny_holding;apply wpAny_bind;apply (strKind P w).pyHash (strKind_is P w (f i) t);have room:=mC f i;refine wpAny_setAddHashed_of (knd:=strKind P w) (strKind_is _ _ _ _) rfl so' (by omega) fun h' sb so2=>wpAny_pure ⟨plainId_quiet F.plain_set_update_loop _,?_⟩;have other:∀b,b≠a→∀o,s'.heap.get? b=some o→h'.get? b=some o:=fun b ne o q=>(sb.2 b ne).trans q
  have next:h'.SetOf (strKind P w) a (XH (dH f (i+1))) (dH f (i+1)).length:=by
   refine SetOf_congr so2 (fun x=>?_) ?_
   ·rw[Bool.eq_iff_iff,Bool.or_eq_true,decide_eq_true_eq,decide_eq_true_eq,decide_eq_true_eq];exact Ba.symm
   ·show _=(pL _ _).length;rw[ut];simp only[decide_eq_true_eq]
  refine ih (i+1) _ (by omega) (W.frame _ s' _ _ RM (Nat.le_succ _) fun b hb o q=>other b (fun z=>out (z▸hb)) o q) next fun s2 mv2 so3=>k s2 ?_ so3;exact Moved.trans W.gtrans ((mv.mono tl).then_heap (Nat.le_succ _) fun b o hb q=>other b (fun z=>hb (z▸List.mem_cons_self)) o q) mv2
end
section
variable{P:Program}{w:World}{A:Around}{E:Value→Shared→Prop}{s:Shared}
theorem wF{zs:List Str}{us:List Value}(r:bh (zs.map V.str) us)(i:Nat)(v:Value)(e:us[i]? =some v):∃t,v=.str (zs.getD i Str.empty) t:=by
 induction zs generalizing us i with
 |nil=>cases r;simp at e
 |cons z q ih=>
  cases r with
  |cons h t=>
   obtain⟨k,rfl⟩:=h
   cases i with
   |zero=>simp at e;exact⟨k,e.symm⟩
   |succ i=>exact ih t i (by simpa using e)
abbrev sS(P:Program)(w:World)(s:Shared)(a:Addr)(zs:List Str)(n:Nat)(h':Heap):Prop:=
 h'.SetOf (strKind P w) a (XH (dH (fun i=>zs.getD i Str.empty) n)) (dH (fun i=>zs.getD i Str.empty) n).length∧∀b o,b<a→s.heap.get? b=some o→h'.get? b=some o
theorem zG{b:Bool}{l:Addr}{its:Array Value}{zs:List Str}(hh:A.handled=none)(hl:s.heap.IsList l its)(r:bh (zs.map V.str) its.toList)(few:its.size+1<scanBound):
  codeAny (model P w) A (.call (.builtin "set.__init__") ⟨[.ref s.heap.objs.size,.ref l],[]⟩)
   (wants (fun u s2=>u=.none∧∃h' tk,s2= { s with heap:=h',toks:=tk }∧sS P w s s.heap.objs.size zs its.size h') E) { s with heap:=s.heap.push (iA b) }:=by
 have O3:(s.heap.push (iA b)).get? s.heap.objs.size=some (iA b):=Heap.get?_push_size _ rfl;refine codeAny_call_builtin F.called_set.init.plain F.entry_set_init (check_set_init_1 ⟨_,O3,rfl⟩ ?_);obtain⟨⟨oc,od,Wu,Qv⟩,q,c1,c,c2⟩:=hl
 cases c1
 cases c2
 have q':(s.heap.push (iA b)).get? l=some { cls:=.type "list",dict:=od,data:=.seq its c,slots:=Qv }:=Heap.get?_push_of_some _ q;have n1:=F.sub_list_set;have n2:=F.sub_list_frozenset;have n3:(Value.type "list"==Value.type "dict")=false:=by decide
 have ll:l<s.heap.objs.size:=Heap.lt_size q;have WL:(s.heap.push (iA b)).IsList l its:=⟨_,q',rfl,c,rfl⟩
 unfold Builtin.«set.__init__» noKeywords Builtin.Frozenset.updateFrom;generalize gi:pyIter=iter
 wp_walk
 subst gi;apply wpAny_pyIter_list WL;refine wpAny_bind<|wpAny_runValue ?_
 have sz:(s.heap.push (iA b)).objs.size=s.heap.objs.size+1:=Heap.size_push _ _
 have ne1:l≠(s.heap.push (iA b)).objs.size:=fun z=>by rw[sz]at z;exact Nat.lt_irrefl _ (Nat.lt_trans (z▸ll) (Nat.lt_succ_self _))
 have out:s.heap.objs.size∉ [(s.heap.push (iA b)).objs.size,l]:=by
  intro z;rcases List.mem_cons.mp z with z|z
  ·rw[sz]at z;exact Nat.ne_of_lt (Nat.lt_succ_self _) z
  ·exact Nat.ne_of_gt ll (List.mem_singleton.mp z)
 have W:=(Walks.list (prog:=P) (w:=w) (A:=A.in1.in1) (by simp[hh]) _ l ne1 its).toS;refine tO W s.heap.objs.size out (fun i=>zs.getD i Str.empty) (fun i v z=>wF r i v (by rw[Array.getElem?_toList];exact z)) few its.size 0 _ (Nat.zero_add _) ?_ ?_ ?_
 ·exact⟨⟨_,Heap.get?_push_size _ rfl,rfl,rfl⟩,WL.push _⟩
 ·exact SetOf_congr ((setObjOf_fresh (knd:=strKind P w) b).setOf (Heap.get?_push_of_some _ O3) (by decide)) (fun _=>rfl) rfl
 ·rintro⟨h',g',d',t',o'⟩ mv so
  obtain rfl:g'=s.gens:=mv.gens;obtain rfl:d'=s.drawn:=mv.drawn;obtain rfl:o'=s.os:=mv.os;apply wpAny_pure;refine wpAny_pure ⟨rfl,h',t',rfl,so,fun x o hx e=>mv.heap x o (fun z=>?_) (Heap.get?_push_of_some _ (Heap.get?_push_of_some _ e))⟩;rcases List.mem_cons.mp z with z|z
  ·exact Nat.ne_of_lt hx z
  ·have z:=List.mem_singleton.mp z;rw[sz]at z;exact Nat.ne_of_lt (Nat.lt_succ_of_lt hx) z
theorem qT{l:Addr}{its:Array Value}{zs:List Str}{Q:Value→Shared→Prop}(hh:A.handled=none)(hl:s.heap.IsList l its)(r:bh (zs.map V.str) its.toList)(few:its.size+1<scanBound)
  (k:∀(h':Heap)(tk:Nat),sS P w s s.heap.objs.size zs its.size h'→Q (.ref s.heap.objs.size) { s with heap:=h',toks:=tk }):wpAny (model P w) A (call (.type "set") [.ref l]) Q E s:=by
 have C:=F.called_set;obtain⟨_,_,c1⟩:=C.mro;have c2:=C.made;have c3:=C.sub;have c4:=C.notType;have c5:=C.canCreate;have c6:=F.typeCall_set_1 (.ref l);have c7:=C.init.lookup;have c8:=C.init.bind (.ref s.heap.objs.size);apply wpAny_call;apply codeAny_of_tree;show wpAny _ _ (callAny (.type "set") ⟨[.ref l],[]⟩) _ _ _;apply wpAny_pure;refine And.intro (Code.quiet_builtin _ (by decide+kernel))<|codeAny_builtin F.entry_type_call ?_
 rw[Around.under_plain (weight_type_call_type "set" [.ref l] []) rfl]
 repeat any_goals first|assumption|wp_step
 refine codeAny_mono (R:=wants (fun o s1=>∃b:Bool,o=.ref s.heap.objs.size∧s1= { s with heap:=s.heap.push (iA b) }) E) (code_set_new_1 _ fun b=>⟨b,rfl,rfl⟩) fun res s1 z=>?_;rcases res with e|(o|_|_|_)<;>first|exact z|exact z.elim|skip
 obtain⟨b,rfl,rfl⟩:=z;have isS:Shared.TypeIs { s with heap:=s.heap.push (iA b) } (.ref s.heap.objs.size) "set":=⟨_,Heap.get?_push_size _ rfl,rfl⟩
 repeat any_goals first|assumption|wp_step
 refine codeAny_mono (zG (E:=E) (by simp[hh]) hl r few) fun Vo s2 z2=>?_;rcases Vo with e|(o|_|_|_)<;>first|exact z2|exact z2.elim|skip
 obtain⟨rfl,h',tk,rfl,fin⟩:=z2
 repeat any_goals first|assumption|wp_step
 exact k h' tk fin
end
section
variable{X:Cx}{e:Expr}{te:TE}{p1 p2 pos pos2:Pos}
theorem yt(hc:X.calm=true)(g1:Gl X "len")(m1:X.mg "len"=none)(g2:Gl X "set")(m2:X.mg "set"=none)(he:PE X e te)
  (hs:starEach [e] X.env=(false,eval e X.env)::starEach [] X.env:=by rfl) (Ua:starEach [.Call (.Name "set" p2) [e] [] pos2] X.env=(false,eval (.Call (.Name "set" p2) [e] [] pos2) X.env)::starEach [] X.env:=by rfl)
  (hp:(backTo pos (starEach [] X.env)).any (·.1)=false:=by rfl) (Ub:(backTo pos2 (starEach [] X.env)).any (·.1)=false:=by rfl):
  PE X (.Call (.Name "len" p1) [.Call (.Name "set" p2) [e] [] pos2] [] pos) (fun σ H Q=>te σ H fun x H1=>∃(a:Addr)(zs:List Str),x=.ref a∧M_ X.K H1 a (zs.map V.str)∧zs.length+1<scanBound∧Q (.int ((dH (fun i=>zs.getD i Str.empty) zs.length).length:Nat)) H1):=by
 intro pins s σ H Q I h;refine wpAny_Call_Name_kw (ig I g1 m1 PySem.boot_len ?_ (by decide) (by decide));refine PyProof.Rows.callWith_builtin1 ?_ Ua hp;rw[Ua];show wpAny _ _ (spliced ((false,eval (.Call (.Name "set" p2) [e] [] pos2) X.env)::backTo pos (starEach [] X.env))) _ _ s;refine Calls.spliced_cons ?_;have hv:bootBuiltins "set"=some (.type "set"):=by decide+kernel
 refine wpAny_Call_Name_kw (ig I g2 m2 hv ?_ (by decide) (by decide));refine callWith_type1 ?_ hs Ub;have ha:=rC he vD hs
 refine J6 (ha pos2 pins s σ H (fun vs H1=>match vs with
  |[x]=>∃(a:Addr)(zs:List Str),x=.ref a∧M_ X.K H1 a (zs.map V.str)∧zs.length+1<scanBound∧Q (.int ((dH (fun i=>zs.getD i Str.empty) zs.length).length:Nat)) H1
  |_=>False) I h) fun us s1 ⟨vs,H1,I1,rv,z⟩=>?_
 dsimp only at z
 split at z
 rotate_left
 ·exact z.elim
 rename_i x;obtain⟨a,zs,e1,sq,few,q⟩:=z;subst e1;obtain⟨u,rfl,ru⟩:=rv.one
 cases ru
 obtain⟨its,ri,pl,hz⟩:=I1.list sq;have ln:its.length=zs.length:=by rw[← ri.length,List.length_map]
 refine qT (I1.ok.hd hc) pl.isList (by simpa using ri) (by simpa[ln]using few) fun h' tk fin=>?_;obtain⟨so,kp⟩:=fin;have I2:Inv X pins σ H1 { s1 with heap:=h',toks:=tk }:=I1.kept fun b o z=>kp b o (Heap.lt_size z) z;refine Calls.spliced_nil ?_;obtain⟨o,go,oo⟩:=so.objOf;obtain⟨o1,es,ep,t,o2,_,_,o3,o4⟩:=oo;have lz:=mC (fun i=>zs.getD i Str.empty) its.toArray.size;have sz:its.toArray.size=zs.length:=by simp[ln]
 have sb:scanBound<2 ^ 63:=by decide
 refine call_len_set go o1 o2 o4 (by omega) ?_;refine⟨.int _,H1,I2.tok _,⟨_,rfl⟩,?_⟩;rw[o3,sz];exact q
end
end L2
namespace L3
open PySem PySem.Spec PyProof.Rows L2
theorem zI(f:Nat→List Nat):∀n,dH (fun i=>S (f i)) n=(dH f n).map S
 |0=>rfl
 |n+1=>by
  show pL (dH (fun i=>S (f i)) n) (S (f n))=(pL (dH f n) (f n)).map S;rw[zI f n];unfold pL
  have:S (f n)∈(dH f n).map S↔f n∈dH f n:=by
   constructor
   ·intro h;obtain⟨x,hx,e⟩:=List.mem_map.mp h;rw[← xR e];exact hx
   ·exact fun h=>List.mem_map.mpr ⟨_,h,rfl⟩
  by_cases q:f n∈dH f n
  ·rw[if_pos q,if_pos (this.mpr q)]
  ·rw[if_neg q,if_neg (fun z=>q (this.mp z)),List.map_append];rfl
def kE(ls:List (List Nat)):Nat:=(dH (fun i=>ls.getD i []) ls.length).length
theorem zH(ls:List (List Nat)):(dH (fun i=>(ls.map S).getD i Str.empty) (ls.map S).length).length=kE ls:=by
 have:(fun i=>(ls.map S).getD i Str.empty)=fun i=>S (ls.getD i []):=by
  funext i
  rw[List.getD_eq_getElem?_getD,List.getD_eq_getElem?_getD,List.getElem?_map]
  cases ls[i]? <;>rfl
 rw[this,List.length_map,zI,List.length_map];rfl
def jP(p:PV)(h:List PO):Res PV:=match Ro h p with
 |some xs=>match dv xs with
  |some ls=>if ls.length+1<scanBound then .ok (.int (kE ls:Nat)) h else .bad
  |none=>.bad
 |none=>.bad
section
variable{X:Cx}{T:Tab}{Ew:XK}{e:Expr}{f:Ex}{p1 p2 pos pos2:Pos}
theorem lu{K:W.Frag}{F:Hp}{m:List Addr}:∀{ls:List (List Nat)}{vs:List V},ay K T F m (ls.map PV.str) vs→vs=(ls.map S).map V.str
 |[],_,.nil=>rfl
 |l::r,_,.cons a b=>by
  cases a
  rw[lu b];rfl
theorem yi(g1:Gl X "len")(m1:X.mg "len"=none)(g2:Gl X "set")(m2:X.mg "set"=none)(he:RE X T Ew e f)(hc:X.calm=true:=by rfl)
  (hs:starEach [e] X.env=(false,eval e X.env)::starEach [] X.env:=by rfl) (Ua:starEach [.Call (.Name "set" p2) [e] [] pos2] X.env=(false,eval (.Call (.Name "set" p2) [e] [] pos2) X.env)::starEach [] X.env:=by rfl)
  (hp:(backTo pos (starEach [] X.env)).any (·.1)=false:=by rfl) (Ub:(backTo pos2 (starEach [] X.env)).any (·.1)=false:=by rfl):
  RE X T Ew (.Call (.Name "len" p1) [.Call (.Name "set" p2) [e] [] pos2] [] pos) (c1 jP f):=by with_unfolding_all
 refine PE.imp (yt hc g1 m1 g2 m2 he hs Ua hp Ub) ?_;rintro σ H Q ⟨F,m,ρ,h,R,p⟩;refine⟨F,m,ρ,h,R,(aG.bind p).mono ?_⟩;rintro x H1 ⟨F1,m1,h1,p1,s1,R1,r1,w⟩
 unfold jP at w
 cases e1:Ro h1 p1 with
 |none=>rw[e1]at w;exact w.elim
 |some ys=>
  rw[e1]at w
  cases e2:dv ys with
  |none=>simp only[e2]at w;exact w.elim
  |some ls=>
   simp only[e2]at w
   by_cases q:ls.length+1<scanBound
   ·rw[if_pos q]at w;obtain⟨a,vs,rfl,ea,ra⟩:=fL R1 r1 e1;have em:=gz e2;subst em;have ev:=lu ra;subst ev;refine⟨a,ls.map S,rfl,ea,by rw[List.length_map];exact q,?_⟩;rw[zH];exact aV w R1 (.int _)
   ·rw[if_neg q]at w;exact w.elim
end
end L3
namespace L2
open PySem PySem.Spec PyProof.Rows
end L2
namespace L3
open PySem PySem.Spec PyProof.Rows L2
section
variable{X:Cx}{T:Tab}{Ew:XK}{pos RN:Pos}
theorem iR{elt iter:Expr}{x y:Str}{px py:Pos}{ifs:List Expr}{scope:Scope}{it:Ax}{tt:Tx}{te:Ex}{M:List Str}{iy:Nat}(g8:List Nat)(NZ:X.calm=true)(S:eX X.N X.env.scope scope g8 x M)
  (hi:RI X T Ew (.Name x px) iter it) (ht:∀cl C ex s H,Wf (dI X M scope cl C ex s H) T Ew ifs tt) (he:∀cl C ex s H,RE (dI X M scope cl C ex s H) T Ew elt te)
  (W7:X.N.Nodup) (hy:X.N[iy]? =some y) (V_:X.env.scope.names.lookup y=some .local) (WT:swapsWith (.ListComp elt [⟨.Name x px,iter,ifs,0⟩] scope pos) (some (.Name y py)) RN.line X.env=pure true)
  (hs:∀y,foldedSetIterable iter X.env y=pure y:=by intro _;rfl):RS X T Ew (.Assign [.Name y py] (.ListComp elt [⟨.Name x px,iter,ifs,0⟩] scope pos) RN) (aO iy (cN QF (eN g8 it tt te))):=by with_unfolding_all exact(
 PS.imp (om (tt:=wT X T Ew tt) (te:=wE X T Ew te) g8 NZ S hi ht he W7 hy V_ WT hs) fun D σ H ⟨F,m,ρ,h,R,p⟩=>oU (fun F m h H ps vs R r w D hD=>fU w R r D hD)
  ⟨F,m,ρ,h,R,(gf p).mono (by rintro v H1 ⟨F1,m1,h1,q,s1,R1,r1,w1⟩;exact w1 F1 m1 H1 _ .refl ⟨R1,(s1.env R.env).set iy r1⟩)⟩)
theorem tS{elt iter:Expr}{x y:Str}{px py:Pos}{ifs:List Expr}{scope:Scope}{it:Ax}{tt:Tx}{te:Ex}{M:List Str}{iy:Nat}(g8:List Nat)(NZ:X.calm=true)(S:eX X.N X.env.scope scope g8 x M)
  (hi:RI X T Ew (.Name x px) iter it) (ht:∀cl C ex s H,Wf (dI X M scope cl C ex s H) T Ew ifs tt) (he:∀cl C ex s H,RE (dI X M scope cl C ex s H) T Ew elt te)
  (W7:X.N.Nodup) (hy:X.N[iy]? =some y) (V_:X.env.scope.names.lookup y=some .local) (WT:swapsWith (.ListComp elt [⟨.Name x px,iter,ifs,0⟩] scope pos) (some (.Name y py)) RN.line X.env=pure true)
  (hs:∀y,foldedSetIterable iter X.env y=pure y:=by intro _;rfl):RS X T Ew (.Assign [.Name y py] (.ListComp elt [⟨.Name x px,iter,ifs,0⟩] scope pos) RN) (aO iy (cN Do (eN g8 it tt te))):=by with_unfolding_all exact(
 PS.imp (om (tt:=wT X T Ew tt) (te:=wE X T Ew te) g8 NZ S hi ht he W7 hy V_ WT hs) fun D σ H ⟨F,m,ρ,h,R,p⟩=>oU (fun F m h H ps vs R r w D hD=>ot w R r D hD)
  ⟨F,m,ρ,h,R,(gf p).mono (by rintro v H1 ⟨F1,m1,h1,q,s1,R1,r1,w1⟩;exact w1 F1 m1 H1 _ .refl ⟨R1,(s1.env R.env).set iy r1⟩)⟩)
def gB(v o i:PV)(ρ:Ev)(h:List PO):SR:=match mM h o,i with
 |some (n,xs),.int k=>match RD xs.length k with
  |some j=>.nx ρ (h.set n (.lst (xs.set j v)))
  |none=>.bad
 |_,_=>.bad
def iP(fo fi fv:Ex):Sx:=fun ρ h=>dY (fv ρ h) fun v h1=>dY (fo ρ h1) fun o h2=>dY (fi ρ h2) fun i h3=>gB v o i ρ h3
theorem tR{o i v:Expr}{fo fi fv:Ex}{px:Pos}(ho:RE X T Ew o fo)(hi:RE X T Ew i fi)(hv:RE X T Ew v fv)
  (ha:∀u,assign (.Subscript o i px) X.env u=(do
   let ov ← holding [u] (eval o X.env)
   let iv ← holding [u,ov] (eval i X.env)
   standAt px
   holding [u,ov,iv] (setItem ov iv u)
   release [u,ov,iv] []):=by intro _;rfl)
  (hs:swapsWithSole [.Subscript o i px] v pos.line X.env=pure false:=by rfl) (hw:swappedStores [.Subscript o i px] v X.env=pure none:=by rfl)
  (h1:(assignEach [.Subscript o i px] X.env).map (·.2)=[assign (.Subscript o i px) X.env]:=by rfl):RS X T Ew (.Assign [.Subscript o i px] v pos) (iP fo fi fv):=by with_unfolding_all
 refine PS.imp (Ah hv (FV ho hi zF ha) hs hw h1) ?_;rintro D σ H ⟨F,m,ρ,h,R,p⟩;refine⟨F,m,ρ,h,R,(gf p).mono ?_⟩;rintro v H1 ⟨F1,m1,h1,pv,s1,R1,r1,w1⟩
 refine⟨F1,m1,ρ,h1,R.of s1 R1,(gf w1).mono ?_⟩;rintro o H2 ⟨F2,m2,h2,po,s2,R2,r2,w2⟩;refine⟨F2,m2,ρ,h2,(R.of s1 R1).of s2 R2,(gf w2).mono ?_⟩;rintro i H3 ⟨F3,m3,h3,pi,s3,R3,r3,w3⟩;have ZX:=((R.of s1 R1).of s2 R2).of s3 R3;unfold gB at w3
 split at w3
 ·rename_i n xs k el
  split at w3
  ·rename_i j hj;obtain⟨a,vs,rfl,em,hF,hH,rr⟩:=qh R3 (s3.rep r2) el
   cases r3
   have rv:=s3.rep (s2.rep r1);refine⟨a,vs,k,j,rfl,rfl,hH,by rw[← rr.length];exact hj,?_⟩;obtain⟨st,R'⟩:=R3.upd (o':=.lst (xs.set j pv)) (ho:=.lst (vs.set j v)) em hF ⟨_,hH⟩ ⟨hF,_,aJ,rr.set rv j⟩;exact w3 F3 m3 _ _ st ⟨R',st.env ZX.env⟩
  ·exact w3.elim
 ·exact w3.elim
end
noncomputable def qU(C:Nat)(as:Ax):Sx:=fun ρ h=>match as ρ h with
 |.ok qs h1=>if qs.length≤sizeLine then .exc (.cls C) h1 else .bad
 |.exc e h1=>.exc e h1
 |.bad=>.bad
theorem zN{X:Cx}{T:Tab}{E:XK}{x:Str}{C:Nat}{Ca:Addr}{np M9 pos:Pos}{e0:Expr}{es:List Expr}{fs:Ax}{QV Wc:List Value}{B Bn Mx nid Qf inN:String}
  (Fn:ExcBaseFacts Bn Mx inN Wc) (U_:QV.contains (.type Bn)=true) (FB:ExcBaseFacts B nid Qf QV) (ok:W.excIn X.K Ca QV Mx=true) (hC:T C=some Ca) (hg:Gl X x) (hm:X.mg x=some (.ref Ca)) (l:Lv X E)
  (ha:RA X T E (e0::es) fs) (hc:X.calm=true:=by rfl) (O1:nD0 x:=by decide) (he:starEach (e0::es) X.env=(false,eval e0 X.env)::starEach es X.env:=by rfl) (Ng:(backTo M9 (starEach es X.env)).any (·.1)=false:=by rfl):
  RS X T E (.Raise (some (.Call (.Name x np) (e0::es) [] M9)) none pos) (qU C fs):=by with_unfolding_all
 refine PS.imp (Ag Fn U_ FB ok hg hm hc l ha O1 he Ng) ?_;rintro D σ H ⟨F,m,ρ,h,R,p⟩;refine⟨F,m,ρ,h,R,?_⟩
 unfold qU at p
 cases z:fs ρ h with
 |ok qs h1=>
  rw[z]at p;dsimp only at p
  split at p
  ·rename_i hl;intro F' m' H' vs s R' r;refine⟨by rw[← r.length];exact hl,?_⟩;exact p F' m' H' (.ref Ca) none s R' ⟨Ca,hC,rfl,rfl⟩
  ·exact p.elim
 |exc e h1=>rw[z]at p;exact p
 |bad=>rw[z]at p;exact p
noncomputable def vy(C:Nat):Res (List PV)→SR
 |.ok [v] h1=>.exc (.Og C v) h1
 |.exc e h1=>.exc e h1
 |_=>.bad
def iQ(z:Bool)(C:Nat)(as:Ax):Sx:=if z=true then fun ρ h=>vy C (as ρ h)else fun _ _=>.bad
theorem pS{X:Cx}{T:Tab}{E:XK}{x:Str}{C:Nat}{Ca fI:Addr}{np M9 pos:Pos}{e:Expr}{fs:Ax}{k:Nat}{fd:FuncData}{ps:List Str}(G:dE X.prog X.w X.K X.mg X.base Py 1 fI fd ps (vp X.K "at"))(c:Ti X.K Ca fI "at")(hb:fh X.K fd ps [])(hr:cX k X.A)(hC:T C=some Ca)(hg:Gl X x)(hm:X.mg x=some (.ref Ca))(l:Lv X E)
  (ha:RA X T E [e] fs) (hl:ps.length=2:=by rfl) (hc:X.calm=true:=by rfl) (O1:nD0 x:=by decide) (he:starEach [e] X.env= [(false,eval e X.env)]:=by rfl) (Ng:(backTo M9 (starEach [] X.env)).any (·.1)=false:=by rfl):
  RS X T E (.Raise (some (.Call (.Name x np) [e] [] M9)) none pos) (iQ (Nat.ble 2 k) C fs):=by with_unfolding_all
 by_cases hz:Nat.ble 2 k=true
 ·refine PS.imp (yk G c hb hl (hr.mono (Nat.le_of_ble_eq_true hz)) hg hm hc l ha O1 he Ng) ?_;rintro D σ H ⟨F,m,ρ,h,R,p⟩;refine⟨F,m,ρ,h,R,?_⟩
  unfold iQ at p;rw[if_pos hz]at p
  cases z:fs ρ h with
  |ok qs h1=>
   rw[z]at p;intro F' m' H' vs s R' r
   cases qs with
   |nil=>exact p.elim
   |cons v more=>
    cases more with
    |cons _ _=>exact p.elim
    |nil=>obtain⟨y,rfl,ry⟩:=r.one;refine⟨y,rfl,c,fun dx nd=>?_⟩;obtain⟨s2,R2⟩:=bp.lay (o:=Ri dx "at" y) R' nd;exact p _ m' _ (.ref Ca) (some dx) (s.trans s2) R2 ⟨Ca,dx,y,hC,rfl,rfl,aJ,s2.rep ry⟩
  |exc e h1=>rw[z]at p;exact p
  |bad=>rw[z]at p;exact p
 ·intro pins s σ H D I ⟨F,m,ρ,h,R,p⟩;unfold iQ at p;rw[if_neg hz]at p;exact p.elim
noncomputable def Ys(ok:Nat→Bool)(p:PV)(h:List PO):Res PV:=match p with
 |.Og C v=>if ok C=true then .ok v h else .bad
 |_=>.bad
theorem HB{X:Cx}{T:Tab}{Ew:XK}{o:Expr}{fo:Ex}{apos:Pos}{ok:Nat→Bool}(hx:∀C Ca,ok C=true→T C=some Ca→∃fI,Ti X.K Ca fI "at")(ho:RE X T Ew o fo)(QL:attributeBase o "at" X.env (eval o X.env)=eval o X.env:=by rfl):RE X T Ew (.Attribute o "at" apos) (c1 (Ys ok) fo):=by with_unfolding_all
 refine PE.imp (Dc ho QL) ?_;rintro σ H Q ⟨F,m,ρ,h,R,p⟩;refine⟨F,m,ρ,h,R,(aG.bind p).mono ?_⟩;rintro x H1 ⟨F1,m1,h1,p1,s1,R1,r1,w1⟩
 unfold Ys at w1
 split at w1
 ·split at w1
  ·rename_i C v hok
   cases r1 with
   |Og c e d r=>obtain⟨fI,xi⟩:=hx _ _ hok c;exact⟨_,_,fI,_,_,rfl,R1.same _ _ e,R1.same _ _ d,xi,w1 F1 m1 H1 _ .refl R1 r⟩
  ·exact w1.elim
 ·exact w1.elim
noncomputable def BG:PV→Option (Nat×PV)
 |.cls C=>some (C,.exc C)
 |.Og C v=>some (C,.Og C v)
 |_=>none
def Cz(cat:Nat→Bool)(g:Sx)(i n:Nat)(gs:Sx):Sx:=fun ρ h=>match g ρ h with
 |.exc e h1=>match BG e with
  |some (C,p)=>if cat C=true then(match gs ((List.replicate n none).set i (some p)) h1 with
   |.rt v h2=>.rt v h2
   |_=>.bad)else .bad
  |none=>.bad
 |r=>r
theorem BF{K:W.Frag}{T:Tab}{F:Hp}{m:List Addr}{e p:PV}{C:Nat}{cls:Value}{dx:Option Addr}(h:kW K T F m e cls dx)(x:BG e=some (C,p)):∃Ca,T C=some Ca∧cls=.ref Ca:=by
 unfold kW at h
 split at h
 ·cases x;obtain⟨Ca,h1,h2,_⟩:=h;exact⟨Ca,h1,h2⟩
 ·cases x;obtain⟨Ca,_,_,h1,h2,_⟩:=h;exact⟨Ca,h1,h2⟩
 ·exact h.elim
theorem BE{K:W.Frag}{T:Tab}{F F':Hp}{m:List Addr}{e p:PV}{C:Nat}{cls:Value}{dx:Option Addr}{a:Addr}(h:kW K T F m e cls dx)(x:BG e=some (C,p))(s:di F F')(ea:F' a=some (kY a cls dx)):aH K T F' m p (.ref a):=by
 unfold kW at h
 split at h
 ·cases x;obtain⟨Ca,h1,rfl,rfl⟩:=h;exact .exc h1 ea
 ·cases x;obtain⟨Ca,d,y,h1,rfl,rfl,h4,h5⟩:=h;exact .Og h1 ea (s _ _ h4) (h5.mono s fun _ _ z=>z)
 ·exact h.elim
theorem Fv{X:Cx}{T:Tab}{Ew:XK}{cat:Nat→Bool}{body suite:List Stmt}{b0:Stmt}{g gs:Sx}{t n:Str}{Ta:Addr}{i:Nat}{tp Vv pos:Pos}(Zh:∀C Ca,cat C=true→T C=some Ca→PySem.W.exmOne X.K (.ref Ca) (.ref Ta)=some true)
  (hb:∀pn W Eb,fE (Qc X.prog X.w) (X.tried pn W) Eb→RL (X.tried pn W) T Eb body g) (hs:∀pn a,RL (X.suite pn a) T (fun _ _ _=>False) (b0::suite) gs)
  (hN:X.N.Nodup) (hi:X.N[i]? =some n) (hn:X.env.scope.names.lookup n=some .local) (hg:Gl X t) (hm:X.mg t=some (.ref Ta)) (stk:X.stack=X.env::X.outer:=by rfl) (hf:X.env.frame=some X.env.locals:=by rfl) (O1:(t==("__debug__":Str))=false:=by decide):
  RS X T Ew (.Try body [.ExceptHandler (some (.Name t tp)) (some n) (b0::suite) Vv] [] [] pos) (Cz cat g i X.N.length gs):=by with_unfolding_all
 refine PS.imp (FM (tb:=fun Eb=>wS X T Eb g) (ts:=wS X T (fun _ _ _=>False) gs) stk hf hb hs hN hi hn hg hm O1) ?_;rintro D σ H ⟨F,m,ρ,h,R,p⟩;refine⟨F,m,ρ,h,R,?_⟩
 unfold Cz at p
 cases z:g ρ h with
 |nx ρ1 h1=>rw[z]at p;exact p
 |rt v h1=>rw[z]at p;exact p
 |bk ρ1 h1=>rw[z]at p;exact p
 |ct ρ1 h1=>rw[z]at p;exact p
 |bad=>rw[z]at p;exact p
 |exc e h1=>
  rw[z]at p;dsimp only at p
  cases ev:BG e with
  |none=>rw[ev]at p;exact p.elim
  |some cp=>
   obtain⟨C,pe⟩:=cp;rw[ev]at p;dsimp only at p
   split at p
   ·rename_i hC;intro F' m' H' cls dx s R' rx;obtain⟨Ca,c,rfl⟩:=BF rx ev;refine⟨Zh C Ca hC c,fun a σ' hl na=>?_⟩;obtain⟨s2,R2⟩:=bp.lay (o:=kY a (.ref Ca) dx) R' na;have re:aH X.K T (upd F' a (kY a (.ref Ca) dx)) m' pe (.ref a):=BE rx ev s2.fz aJ;refine⟨_,m',(List.replicate X.N.length none).set i (some pe),h1,⟨R2,by simp[hl],fun j q ej=>?_⟩,?_⟩
    ·by_cases hj:i=j
     ·subst hj
      rw[List.getElem?_set_self (by
       rcases Nat.lt_or_ge i (List.replicate X.N.length (none:Option PV)).length with y|y
       ·exact y
       ·rw[List.getElem?_eq_none (by simpa using y)]at ej;cases ej)]at ej
      cases ej
      have Sy:i<σ'.length:=by rw[hl];exact(List.getElem?_eq_some_iff.mp hi).1
      exact⟨_,List.getElem?_set_self Sy,re⟩
     ·rw[List.getElem?_set_ne hj,List.getElem?_replicate]at ej
      split at ej<;>cases ej
    ·cases y:gs ((List.replicate X.N.length none).set i (some pe)) h1 with
     |rt v h2=>rw[y]at p;exact fun F2 m2 H2 x t2 R3 rx=>p F2 m2 H2 x ((s.trans s2).trans t2) R3 rx
     |nx _ _=>rw[y]at p;exact p.elim
     |bk _ _=>rw[y]at p;exact p.elim
     |ct _ _=>rw[y]at p;exact p.elim
     |exc _ _=>rw[y]at p;exact p.elim
     |bad=>rw[y]at p;exact p.elim
   ·exact p.elim
section
variable{X:Cx}{T:Tab}{Ew:XK}{a b e:Expr}{es:List Expr}{fa fb:Ex}{fs:Ax}{pos:Pos}
def ko(p q:PV)(h:List PO):Res PV:=match Rp h p,Rp h q with
 |some a,some b=>if a.length+b.length≤sizeLine then .ok (.ref h.length) (h++ [.lst (a++b)])else .bad
 |_,_=>.bad
theorem yn{K:W.Frag}{T:Tab}:eV K T (wW K) ko:=by
 intro F m h H x y p q Q Ew R rp rq w;unfold ko at w
 split at w
 ·rename_i a b e1 e2
  split at w
  ·rename_i hz;obtain⟨pa,va,rfl,ea,ra⟩:=jS R rp e1;obtain⟨pb,vb,rfl,eb,rb⟩:=jS R rq e2;exact .inr (.inr (.inr (.inr ⟨pa,pb,va,vb,rfl,rfl,ea,eb,by rw[← ra.length,← rb.length];exact hz,ot w R (ra.append rb)⟩)))
  ·exact w.elim
 ·exact w.elim
theorem CK(ha:RE X T Ew a fa)(hb:RE X T Ew b fb):RE X T Ew (.BinOp a .Add b pos) (c2 ko fa fb):=by with_unfolding_all exact(
  oa xm yn ha hb)
end
noncomputable def xL:List PV→Option (List Bool)
 |[]=>some []
 |.bl b::r=>(xL r).map (b:: ·)
 |_=>none
theorem qF:∀{ps:List PV}{bs:List Bool},xL ps=some bs→ps=bs.map PV.bl
 |[],_,e=>by cases e;rfl
 |p::r,bs,e=>by
  unfold xL at e
  split at e
  ·rename_i h;cases h
  ·rename_i b r' h
   cases h
   obtain⟨cs,hc,rfl⟩:=Option.map_eq_some_iff.mp e;rw[qF hc];rfl
  ·cases e
theorem tW{K:W.Frag}{T:Tab}{F:Hp}{m:List Addr}:∀{bs:List Bool}{vs:List V},ay K T F m (bs.map PV.bl) vs→vs=bs.map V.bl
 |[],_,.nil=>rfl
 |b::r,_,.cons q t=>by cases q;rw[tW t];rfl
theorem sZ:∀{bs:List Bool}{us:List Value},bh (bs.map V.bl) us→us=bs.map Value.bool
 |[],_,.nil=>rfl
 |b::r,_,.cons q t=>by cases(show _=Value.bool b from q);rw[sZ t];rfl
noncomputable def WM(k:Bool):Value→Bool
 |.bool b=>b==k
 |_=>false
theorem GB{A:Around}{s:Shared}(k:Bool){bs:List Bool}:∀v,v∈(bs.map Value.bool).toArray→SeqAt.EqAt A s v (.bool k) (WM k v):=fun v hv=>by obtain⟨b,_,rfl⟩:=List.mem_map.mp (show v∈bs.map Value.bool from List.mem_toArray.mp hv);exact SeqAt.EqAt.bool_bool b k
section
variable{X:Cx}
def wU(K:W.Frag):V→List V→Hp→VK→Prop:=fun x xs H Q=>∃(a:Addr)(bs:List Bool)(k:Bool),x=.ref a∧M_ K H a (bs.map V.bl)∧xs= [.bl k]∧Q (.int (bs.count k:Nat)) H
theorem yG:Xi X "list.count" (wU X.K):=by
 intro pins s σ H x xs v us Q I rx rv h;obtain⟨a,bs,k,rfl,sq,rfl,q⟩:=h
 cases rx
 obtain⟨u,rfl,ru⟩:=rv.one
 cases(show u=Value.bool k from ru)
 obtain⟨its,r,pl,_⟩:=I.list sq;have e:=sZ r;subst e;obtain⟨⟨cls,dd,data,sl⟩,ho,hc,n,hd⟩:=pl.isList;simp only at hc hd;subst hc hd;refine call_meets PySem.F.slot_list_count ⟨_,ho,rfl⟩ PySem.F.entry_list_count (PySem.F.args_list_count_2 _ _) (SeqAt.list_countAt a _ n dd sl (.bool k) (WM k)) ⟨ho,fun y hy=>GB k y hy,?_⟩
 have e2:List.countP (WM k) (bs.map Value.bool)=bs.count k:=by rw[List.countP_map];rfl
 rw[show(bs.map Value.bool).toArray.toList=bs.map Value.bool from rfl,e2];exact⟨.int (bs.count k:Nat),H,I.tok _,⟨_,rfl⟩,q⟩
end
def rD(p:PV)(ps:List PV)(h:List PO):Res PV:=match ps with
 |[.bl k]=>match(Ro h p).bind xL with
  |some bs=>.ok (.int (bs.count k:Nat)) h
  |none=>.bad
 |_=>.bad
theorem uf{K:W.Frag}{T:Tab}:uW K T (wU K) rD:=by
 intro F m h H x xs p ps Q Ew R rp rs w;unfold rD at w
 split at w
 ·rename_i k;obtain⟨y,rfl,ry⟩:=rs.one
  cases ry
  split at w
  ·rename_i bs e;obtain⟨zs,e1,e2⟩:=Option.bind_eq_some_iff.mp e;obtain⟨a,vs,rfl,sq,rr⟩:=fL R rp e1;rw[qF e2]at rr;have:=tW rr;subst this;exact⟨a,bs,k,rfl,sq,rfl,aV w R (.int _)⟩
  ·exact w.elim
 ·exact w.elim
structure sU(K:W.Frag):Prop where
 get:W.specialIn K (.builtin "object.__class__") "__get__"=some (some (.builtin "getset_descriptor.__get__"))
 tk:W.takesIn K (.builtin "object.__class__")=some true
structure wg(K:W.Frag)(C:Addr):Prop where
 at_:W.findIn K (.ref C) "__class__"=some (some (.builtin "object.__class__"))
 mo:W.mroIn K C (.type "object")=some true
 is_:(W.clsIn K C).isSome=true
theorem Bm{K:W.Frag}{a C:Addr}(g:sU K)(c:wg K C)(x:pM K C):W.KitX K (.ref a) (.ref C) (fun h=>∃o vs,h.get? a=some o∧o.cls=.ref C∧o.data=.fields vs):=by
 obtain⟨cd,Qw⟩:=Option.isSome_iff_exists.mp c.is_
 obtain⟨oc,od,Qv,hlk⟩:∃oc od Qv,K.lookup C=some ⟨oc,od,.cls cd,Qv⟩:=by
  unfold W.clsIn at Qw
  split at Qw
  ·rename_i c1 d1 cd1 s1 z;cases Qw;exact⟨_,_,_,z⟩
  ·cases Qw
 have ty:∀(M:Model)(h:Heap),(∃o vs,h.get? a=some o∧o.cls=.ref C∧o.data=.fields vs)→W.Looks M h (typeOf (.ref a)) (.ref C):=(by rintro M h ⟨o,vs,h1,h2,_⟩;exact h2▸(W.Looks.ld h1).andThen .now);refine⟨fun M h _ p=>ty M h p,fun M h NQ _=>?_,fun h tp dd its n sl NQ htp=>?_,fun{prog w A E Q s} NQ p q=>?_⟩
 ·intro A' Q' E' s' k z;unfold isType loadHead;exact wpAny_bind (wpAny_loadPart (k _ _ (NQ _ _ hlk)) (wpAny_pure z))
 ·refine Bool.eq_false_iff.mpr fun z=>?_
  cases beq_iff_eq.mp z
  have:=(NQ _ _ hlk).symm.trans htp
  cases this
 ·exact Cm x NQ (ty _ _ p) c.at_ g.get g.tk c.mo q
inductive Yg(K:W.Frag)(H:Hp):V→Addr→Prop where
 |ins {a C dx:Addr} {fs:List (Str×V)} (e:H a=some (.ins C dx fs)) (cl:Cls K C):Yg K H (.ref a) C
 |exc {a C:Addr} {dx:Option Addr} (e:H a=some (kY a (.ref C) dx)) (x:pM K C):Yg K H (.ref a) C
noncomputable def X4:V→Option Value
 |.ref D=>some (.ref D)
 |.ty n=>some (.type n)
 |_=>none
theorem BN{X:Cx}(g:sU X.K):dZ X (.builtin "isinstance") (fun xs H Q=>∃x c t C b,xs= [x,c]∧X4 c=some t∧Yg X.K H x C∧wg X.K C∧W.kitOne X.K (.ref C) t=some b∧Q (.bl b) H):=by
 intro pins s σ H xs us Q I r h;obtain⟨x,c,t,C,b,rfl,ec,co,kc,e,q⟩:=h;obtain⟨u,w',rfl,ru,Sq⟩:=zn r
 have ew:w'=t:=by
  unfold X4 at ec
  split at ec
  ·cases ec;exact Sq
  ·cases ec;exact Sq
  ·cases ec
 subst ew;have fin:∀tk,EP X pins σ Q (.bool b) { s with toks:=tk }:=fun tk=>⟨.bl b,H,I.tok tk,rfl,q⟩
 cases co with
 |ins ea cl=>
  cases ru
  obtain⟨mA,O,_⟩:=Dx I.hok ea;obtain⟨od,J,_⟩:=O.look;exact W.kia_one (W.kitx_own (cl.get _) cl.hd kc.at_ g.get g.tk kc.mo) I.Qq J e (fun z=>nomatch z) fin
 |@exc a _ dx ea xc=>
  cases ru
  obtain⟨⟨po,pv,p1,p2,p3,_⟩,_,_⟩:=(show bR X.prog X.w H s.heap a (kY a (.ref C) dx)from I.hok a _ ea)
  exact W.kia_one (Bm g kc xc) I.Qq ⟨po,pv,p1,p2,p3⟩ e (fun z=>nomatch z) fin
structure Cf(K:W.Frag)(T:Tab)(kd:Nat→Option Bool)(sC:Nat→Nat→Option Bool)(sT:Nat→String→Option Bool):Prop where
 g:sU K
 ins:∀C a,kd C=some false→T C=some a→Cls K a∧wg K a
 exc:∀C a,kd C=some true→T C=some a→pM K a∧wg K a
 cls:∀C D a b r,sC C D=some r→T C=some a→T D=some b→W.kitOne K (.ref a) (.ref b)=some r
 ty:∀C t a r,sT C t=some r→T C=some a→W.kitOne K (.ref a) (.type t)=some r
noncomputable def xq:List (Nat×Nat×Bool)→Nat→Nat→Option Bool
 |[],_,_=>none
 |(a,b,r)::l,C,D=>if a=C∧b=D then some r else xq l C D
def IP(P:Nat→Nat→Bool→Prop):List (Nat×Nat×Bool)→Prop
 |[]=>True
 |(a,b,r)::l=>P a b r∧IP P l
theorem qf{P:Nat→Nat→Bool→Prop}:∀{l:List (Nat×Nat×Bool)}{C D:Nat}{r:Bool},IP P l→xq l C D=some r→P C D r
 |[],_,_,_,_,e=>by cases e
 |(a,b,q)::l,C,D,r,h,e=>by
  unfold xq at e
  split at e
  ·rename_i z;obtain⟨rfl,rfl⟩:=z
   cases e
   exact h.1
  ·exact qf h.2 e
noncomputable def ED:PV→Option (Nat×Bool)
 |.ins C _=>some (C,false)
 |.exc C=>some (C,true)
 |.Og C _=>some (C,true)
 |_=>none
noncomputable def Ht(sC:Nat→Nat→Option Bool)(sT:Nat→String→Option Bool)(C:Nat):PV→Option Bool
 |.cls D=>sC C D
 |.ty t=>sT C t
 |_=>none
def mU(kd:Nat→Option Bool)(sC:Nat→Nat→Option Bool)(sT:Nat→String→Option Bool)(ps:List PV)(h:List PO):Res PV:=match ps with
 |[p,q]=>match ED p with
  |some (C,b)=>if kd C=some b then(match Ht sC sT C q with
   |some r=>.ok (.bl r) h
   |none=>.bad)else .bad
  |none=>.bad
 |_=>.bad
theorem Am{K:W.Frag}{T:Tab}{kd:Nat→Option Bool}{sC:Nat→Nat→Option Bool}{sT:Nat→String→Option Bool}(tb:Cf K T kd sC sT):
  pf K T (fun xs H Q=>∃x c t C b,xs= [x,c]∧X4 c=some t∧Yg K H x C∧wg K C∧W.kitOne K (.ref C) t=some b∧Q (.bl b) H) (mU kd sC sT):=by
 intro F m h H xs ps Q Ew R rs w;unfold mU at w
 split at w
 ·rename_i p q;obtain⟨x,y,rfl,rx,ry⟩:=rs.two
  split at w
  ·rename_i C b ek
   split at w
   ·rename_i hk
    split at w
    ·rename_i r er;have hq:Q (.bl r) H:=aV w R (.bl _)
     have cy:∀{Ca},T C=some Ca→∃t,X4 y=some t∧W.kitOne K (.ref Ca) t=some r:=fun hC=>by
      unfold Ht at er
      split at er
      ·cases ry with|cls hD=>exact⟨_,rfl,tb.cls _ _ _ _ _ er hC hD⟩
      ·cases ry;exact⟨_,rfl,tb.ty _ _ _ _ er hC⟩
      ·cases er
     unfold ED at ek
     split at ek
     ·cases ek
      cases rx with
      |@ins _ _ a Ca dx XS c e d kk rr=>obtain⟨cl,kc⟩:=tb.ins _ _ hk c;obtain⟨t,e1,e2⟩:=cy c;exact⟨_,_,t,Ca,r,rfl,e1,.ins (R.same _ _ e) cl,kc,e2,hq⟩
     ·cases ek
      cases rx with
      |exc c e=>obtain⟨cl,kc⟩:=tb.exc _ _ hk c;obtain⟨t,e1,e2⟩:=cy c;exact⟨_,_,t,_,r,rfl,e1,.exc (R.same _ _ e) cl,kc,e2,hq⟩
     ·cases ek
      cases rx with
      |Og c e d rr=>obtain⟨cl,kc⟩:=tb.exc _ _ hk c;obtain⟨t,e1,e2⟩:=cy c;exact⟨_,_,t,_,r,rfl,e1,.exc (R.same _ _ e) cl,kc,e2,hq⟩
     ·cases ek
    ·exact w.elim
   ·exact w.elim
  ·exact w.elim
 ·exact w.elim
section
variable{X:Cx}{T:Tab}{Ew:XK}{e:Expr}{es:List Expr}{f:Ax}{p:Pos}
theorem iU{kd:Nat→Option Bool}{sC:Nat→Nat→Option Bool}{sT:Nat→String→Option Bool}{p0:Pos}(tb:Cf X.K T kd sC sT)(hg:Gl X "isinstance")(hm:X.mg "isinstance"=none)(ha:RA X T Ew (e::es) f)
  (he:sE0 X e es:=by rfl) (Ng:(backTo p (starEach es X.env)).any (·.1)=false:=by rfl):RE X T Ew (.Call (.Name "isinstance" p0) (e::es) [] p) (cN (mU kd sC sT) f):=by with_unfolding_all exact(
  lF (BN tb.g) (Am tb) hg hm (by decide+kernel) ha (by decide) (by decide) he Ng)
end
section
variable{K:W.Frag}{T:Tab}{F H:Hp}{m:List Addr}{h:List PO}
theorem RelH.lt{i:Nat}{a:Addr}(R:RelH K T F m h H)(em:m[i]? =some a):i<h.length:=by
 rw[R.len];rcases Nat.lt_or_ge i m.length with q|q
 ·exact q
 ·rw[List.getElem?_eq_none q]at em;cases em
theorem RelH.inj{i j:Nat}{a:Addr}(R:RelH K T F m h H)(e1:m[i]? =some a)(e2:m[j]? =some a):i=j:=by
 have h1:i<m.length:=by rw[← R.len];exact R.lt e1
 have h2:j<m.length:=by rw[← R.len];exact R.lt e2
 rw[List.getElem?_eq_getElem h1,Option.some.injEq]at e1;rw[List.getElem?_eq_getElem h2,Option.some.injEq]at e2;exact(List.getElem_inj R.nd).mp (e1.trans e2.symm)
theorem Bv{i:Nat}{a:Addr}{u:HO}{p:PV}(R:RelH K T F m h H)(em:m[i]? =some a)(hF:F a=none)(hH:∃o,H a=some o)(hp:p.pure=true)(r:aH K T (upd F a u) m p (.ref a)):
  bp F m H (upd F a u) m (upd H a u)∧RelH K T (upd F a u) m (h.set i (.K3 p)) (upd H a u):=by
 have hi:=R.lt em;have am:a∈m:=List.mem_of_getElem? em;have sF:di F (upd F a u):=fR hF u;refine⟨⟨sF,⟨[],by simp⟩,fun b o e nb=>?_,fun b o e=>?_,fun j c hj e=>(by rw[List.getElem?_eq_none hj]at e;cases e),fun c o e=>?_⟩,?_⟩
 ·have:b≠a:=fun z=>nb (by rw[z];exact am);rw[ak this];exact e
 ·by_cases hb:b=a
  ·subst hb;exact⟨u,aJ⟩
  ·exact⟨o,by rw[ak hb];exact e⟩
 ·by_cases hc:c=a
  ·subst hc;exact .inr (.inr am)
  ·rw[ak hc]at e;exact .inl e
 ·refine⟨fun b o e=>?_,by rw[List.length_set];exact R.len,fun j ob c e1 e2=>?_,R.nd⟩
  ·by_cases hb:b=a
   ·subst hb;rw[aJ]at e ⊢;exact e
   ·rw[ak hb]at e ⊢;exact R.same b o e
  ·by_cases hj:i=j
   ·subst hj;rw[List.getElem?_set_self hi]at e1
    cases e1
    rw[em]at e2;cases e2;exact⟨r,hp,u,aJ⟩
   ·rw[List.getElem?_set_ne hj]at e1;have hc:c≠a:=fun z=>by subst z;exact hj (R.inj em e2)
    have q:=R.obj j ob c e1 e2
    cases ob with
    |lst xs=>obtain⟨f,vs,z,rr⟩:=q;exact⟨by rw[ak hc];exact f,vs,by rw[ak hc];exact z,rr.mono sF fun _ _ h=>h⟩
    |dct xs=>obtain⟨f,vs,z,k,rr⟩:=q;exact⟨by rw[ak hc];exact f,vs,by rw[ak hc];exact z,k,rr.mono sF fun _ _ h=>h⟩
    |K3 q'=>obtain⟨r1,r2,o,r3⟩:=q;exact⟨r1.mono sF fun _ _ h=>h,r2,o,sF _ _ r3⟩
end
noncomputable def ur(h:List PO):PV→Option (Nat×List (PK×PV))
 |.ref i=>match h[i]? with
  |some (.dct kvs)=>some (i,kvs)
  |_=>none
 |_=>none
def fzP(h:List PO)(p:PV):Option (PV×List PO):=match ur h p with
 |some (i,kvs)=>if eI kvs=true then some (.dct kvs,h.set i (.K3 (.dct kvs)))else none
 |none=>ij h p
def XR(p:PV)(h:List PO):Res PV:=match fzP h p with
 |some (q,h2)=>.ok q h2
 |none=>.bad
def ZF(f:Ex):Ex:=fun ρ h=>(f ρ h).bind XR
section
variable{K:W.Frag}{T:Tab}{F H:Hp}{m:List Addr}{h:List PO}{p:PV}{x:V}
theorem qi{i:Nat}{kps:List (PK×PV)}(R:RelH K T F m h H)(r:aH K T F m p x)(e:ur h p=some (i,kps)):∃a kvs,x=.ref a∧m[i]? =some a∧F a=none∧H a=some (.dK kvs)∧gu K T F m kps kvs:=by
 unfold ur at e
 split at e
 ·rename_i j
  split at e
  ·rename_i kvs q
   cases e
   cases r with
   |@ref _ a em=>obtain⟨f,vs,e1,k,rr⟩:=R.obj _ _ a q em;exact⟨a,vs,rfl,em,f,e1,k,rr⟩
  ·cases e
 ·cases e
end
section
variable{X:Cx}{T:Tab}{Ew:XK}{a b e o k v:Expr}{fa fb fo fk fv:Ex}{pos px:Pos}
theorem HA(ha:RE X T Ew a fa):RE X T Ew a (ZF fa):=by with_unfolding_all
 refine PE.imp (Et ha) ?_;rintro σ H Q ⟨F,m,ρ,h,R,p⟩;refine⟨F,m,ρ,h,R,(aG.bind p).mono ?_⟩;rintro x H1 ⟨F1,m1,h1,p1,s1,R1,r1,w1⟩
 unfold XR fzP at w1
 cases z:ur h1 p1 with
 |none=>
  rw[z]at w1;dsimp only at w1
  cases y:ij h1 p1 with
  |none=>rw[y]at w1;exact w1.elim
  |some ab=>obtain⟨q,h2⟩:=ab;rw[y]at w1;obtain⟨F2,s2,R2,r2,_⟩:=iF R1 r1 y;exact .inl (w1 F2 m1 H1 x s2 R2 r2)
 |some ab=>
  obtain⟨i,kps⟩:=ab;rw[z]at w1;dsimp only at w1
  by_cases hp:eI kps=true
  ·rw[if_pos hp]at w1;obtain⟨a,kvs,rfl,em,hF,hH,kk,rr⟩:=qi R1 r1 z;refine .inr ⟨a,kvs,hH,fun ob=>?_⟩;have rl:aH X.K T (L2.upd F1 a (.QX ob (.dK kvs))) m1 (.dct kps) (.ref a):=.dct aJ kk (rr.mono (fR hF _) fun _ _ h=>h);have pp:(PV.dct kps).pure=true:=by simpa[PV.pure]using hp
   obtain⟨s2,R2⟩:=Bv R1 em hF ⟨_,hH⟩ pp rl;exact w1 _ m1 _ _ s2 R2 rl
  ·rw[if_neg hp]at w1;exact w1.elim
theorem pX{K:W.Frag}{F H:Hp}{m:List Addr}{h:List PO}{Q:VK}{kps:List (PK×PV)}{kvs:List (Key×V)}(w:aG K T (aH K T) F m H Q Ew (.ok (.ref h.length) (h++ [.dct kps])))(R:RelH K T F m h H)(r:gu K T F m kps kvs):∀p,H p=none→Q (.ref p) (upd H p (.dK kvs)):=fun p hp=>by
 have hF:F p=none:=R.same.free hp;have hm:p∉m:=R.fresh hp
 have st:bp F m H F (m++ [p]) (upd H p (.dK kvs)):=by
  refine⟨di.refl _,⟨[p],rfl⟩,fun b o e _=>by rw[ak (aD e hp)];exact e,fun b o e=>⟨o,by rw[ak (aD e hp)];exact e⟩,fun i a hi e=>?_,fun a o e=>.inl e⟩;rw[List.getElem?_append_right hi]at e
  cases q:i - m.length with
  |zero=>rw[q]at e;simp at e;rw[← e];exact hp
  |succ n=>rw[q]at e;simp at e
 refine w F (m++ [p]) _ (.ref p) st ⟨fun b o e=>?_,by simp[R.len],fun i ob c e1 e2=>?_,?_⟩ (.ref (by rw[R.len,List.getElem?_append_right (acg _)];simp))
 ·have:=R.same b o e;rw[ak (aD this hp)];exact this
 ·by_cases hi:i<h.length
  ·rw[List.getElem?_append_left hi]at e1;have Sy:i<m.length:=by rw[← R.len];exact hi
   rw[List.getElem?_append_left Sy]at e2;have hc:c≠p:=fun z=>hm (by rw[← z];exact List.mem_of_getElem? e2);have q:=R.obj i ob c e1 e2
   cases ob with
   |lst xs=>obtain⟨f,vs,z,rr⟩:=q;exact⟨f,vs,by rw[ak hc];exact z,st.reps rr⟩
   |dct xs=>obtain⟨f,vs,z,k,rr⟩:=q;exact⟨f,vs,by rw[ak hc];exact z,k,st.reps rr⟩
   |K3 q'=>obtain⟨r1,r2,o,r3⟩:=q;exact⟨st.rep r1,r2,o,r3⟩
  ·have W2:h.length≤i:=Nat.le_of_not_lt hi;rw[List.getElem?_append_right W2]at e1;have Zb:m.length≤i:=by rw[← R.len];exact W2
   rw[List.getElem?_append_right Zb]at e2;rw[R.len]at e1
   cases q:i - m.length with
   |zero=>rw[q]at e1 e2;simp at e1 e2;subst e1 e2;exact⟨hF,kvs,aJ,r.1,st.reps r.2⟩
   |succ n=>rw[q]at e1;simp at e1
 ·rw[List.nodup_append];exact⟨R.nd,by simp,fun x hx y hy=>by simp at hy;subst hy;intro z;subst z;exact hm hx⟩
noncomputable def xK:Ex:=fun _ h=>.ok (.ref h.length) (h++ [.dct []])
theorem wP:RE X T Ew (.Dict [] [] pos) xK:=by with_unfolding_all exact(
  PE.imp AB (by rintro σ H Q ⟨F,m,ρ,h,R,p⟩;exact pX p R.toRelH .nil))
def oz(ps:List PV)(h:List PO):Res PV:=match ps with
 |[p]=>match Vd h p with
  |some kps=>.ok (.ref h.length) (h++ [.dct kps])
  |none=>.bad
 |_=>.bad
theorem wa{X:Cx}:dZ X (.type "dict") (fun xs H Q=>∃a kvs,xs= [.ref a]∧Rd H a (.dK kvs)∧∀p,H p=none→Q (.ref p) (upd H p (.dK kvs))):=by
 intro pins s σ H xs us Q I r h;obtain⟨a,kvs,rfl,rd,q⟩:=h;obtain⟨u,rfl,ru⟩:=r.one
 cases(show u=Value.ref a from ru)
 exact BJ I rd fun p s' np I'=>⟨.ref p,_,I',rfl,q p np⟩
theorem vz{K:W.Frag}{T:Tab}:pf K T (fun xs H Q=>∃a kvs,xs= [.ref a]∧Rd H a (.dK kvs)∧∀p,H p=none→Q (.ref p) (upd H p (.dK kvs))) oz:=by
 intro F m h H xs ps Q Ew R rs w;unfold oz at w
 split at w
 ·obtain⟨x,rfl,rx⟩:=rs.one
  split at w
  ·rename_i kps e;obtain⟨a,kvs,rfl,rd,kk,rr⟩:=lT R rx e;exact⟨a,kvs,rfl,rd,pX w R ⟨kk,rr⟩⟩
  ·exact w.elim
 ·exact w.elim
theorem zV{es:List Expr}{f:Ax}{p0:Pos}(hg:Gl X "dict")(hm:X.mg "dict"=none)(ha:RA X T Ew (e::es) f)
  (he:sE0 X e es:=by rfl) (Ng:sP0 X es pos:=by rfl):RE X T Ew (.Call (.Name "dict" p0) (e::es) [] pos) (cN oz f):=by with_unfolding_all exact(
  jO wa vz hg hm (by decide+kernel) ha (by decide) (by decide) he Ng)
def wI(v o i:PV)(ρ:Ev)(h:List PO):SR:=match ur h o,lJ i with
 |some (n,kps),some k=>if kps.length<sizeLine then .nx ρ (h.set n (.dct (lG kps k v)))else .bad
 |_,_=>.bad
def tQ(fo fi fv:Ex):Sx:=fun ρ h=>dY (fv ρ h) fun v h1=>dY (fo ρ h1) fun o h2=>dY (fi ρ h2) fun i h3=>wI v o i ρ h3
theorem wK(hu:X.A.units+64<cLine)(ho:RE X T Ew o fo)(hk:RE X T Ew k fk)(hv:RE X T Ew v fv)(hs:swapsWith v (some (.Subscript o k px)) pos.line X.env=pure false:=by rfl):
  RS X T Ew (.Assign [.Subscript o k px] v pos) (tQ fo fk fv):=by with_unfolding_all
 refine PS.imp (CV (by omega) ho hk hv hs) ?_;rintro D σ H ⟨F,m,ρ,h,R,p⟩;refine⟨F,m,ρ,h,R,(gf p).mono ?_⟩;rintro v H1 ⟨F1,m1,h1,pv,s1,R1,r1,w1⟩
 refine⟨F1,m1,ρ,h1,R.of s1 R1,(gf w1).mono ?_⟩;rintro o H2 ⟨F2,m2,h2,po,s2,R2,r2,w2⟩;refine⟨F2,m2,ρ,h2,(R.of s1 R1).of s2 R2,(gf w2).mono ?_⟩;rintro i H3 ⟨F3,m3,h3,pi,s3,R3,r3,w3⟩;have ZX:=((R.of s1 R1).of s2 R2).of s3 R3;unfold wI at w3
 split at w3
 ·rename_i n kps kk el ek
  split at w3
  ·rename_i hz;obtain⟨a,kvs,rfl,em,hF,hH,rr⟩:=qi R3 (s3.rep r2) el;have Vy:=jU r3 ek;subst Vy;have rv:=s3.rep (s2.rep r1);have hl:kvs.length=kps.length:=by have:=congrArg List.length rr.1;simpa using this
   refine⟨a,_,rfl,Cg.k hH (by rw[hl];exact hz),?_⟩;have rp:=gu.put (k:=kk) rr rv;obtain⟨st,R'⟩:=R3.upd (o':=.dct (lG kps kk pv)) (ho:=.dK (iW kvs (tk kk) v)) em hF ⟨_,hH⟩ ⟨hF,_,aJ,rp.1,rp.2⟩;exact w3 F3 m3 _ _ st ⟨R',st.env ZX.env⟩
  ·exact w3.elim
 ·exact w3.elim
end
end L3
namespace L2
open PySem PySem.Spec PyProof.Rows
end L2
namespace L3
open PySem PySem.Spec PyProof.Rows L2
end L3
namespace L2
open PySem PySem.Spec PyProof.Rows
end L2
namespace L3
open PySem PySem.Spec PyProof.Rows L2
end L3
namespace L2
open PySem PySem.Spec PyProof.Rows
noncomputable def JX:Key→PyData
 |.inl i=>.int i
 |.inr x=>.str x
mutual
inductive Wd(H:Hp):V→PyData→Prop where
 |bl (b:Bool):Wd H (.bl b) (.bool b)
 |int (i:Int):Wd H (.int i) (.int i)
 |str (x:Str):Wd H (.str x) (.str x)
 |lst {a:Addr} {xs:List V} {ds:List PyData} (e:Rd H a (.lst xs)) (r:Cd H xs ds):Wd H (.ref a) (.list ds)
 |dct {a:Addr} {kvs:List (Key×V)} {YC:List (PyData×PyData)} (e:Rd H a (.dK kvs)) (k:YC.map (·.1)=kvs.map (fun p=>JX p.1)) (r:Cd H (kvs.map (·.2)) (YC.map (·.2))):Wd H (.ref a) (.dict YC)
inductive Cd(H:Hp):List V→List PyData→Prop where
 |nil:Cd H [] []
 |cons {x:V} {d:PyData} {xs:List V} {ds:List PyData} (r:Wd H x d) (t:Cd H xs ds):Cd H (x::xs) (d::ds)
end
end L2
namespace L3
open PySem PySem.Spec PyProof.Rows L2
section
variable{X:Cx}{T:Tab}{Ew:XK}{a b e o:Expr}{es:List Expr}{fa fb fo:Ex}{fs:Ax}{pos p0:Pos}
noncomputable def Es(K:W.Frag):R2:=fun x y H Q=>∃a b ys,x=.ref a∧y=.ref b∧NP K H a []∧NP K H b ys∧Q (.ref b) H
theorem Dl:Nq X (binaryOp .Add) (Es X.K):=by
 intro pins s σ H x y v u Q I rx ry h;obtain⟨p,q,ys,rfl,rfl,hp,hq,k⟩:=h
 cases rx
 cases ry
 obtain⟨its,r1,t1,_⟩:=I.tuple hp;obtain⟨Us,r2,t2,_⟩:=I.tuple hq;obtain⟨⟨c1,d1,dt1,sl1⟩,g1,rfl,n1,rfl⟩:=id t1;obtain⟨⟨c2,d2,dt2,Xp⟩,g2,rfl,n2,rfl⟩:=id t2;have e0:its= []:=r1.Pz.mpr rfl;exact concat_meets ⟨_,g1,rfl⟩ ⟨_,g2,rfl⟩ noFill_tuple_add seq_tuple_add F.slot_tuple_add F.entry_tuple_add (F.args_tuple_add_2 _ _) (tuple_addW0 p q _ _ n1 n2 d1 d2 sl1 Xp (by simp[e0])) ⟨g1,g2,.ref q,H,I,rfl,k⟩
def aq(p q:PV)(h:List PO):Res PV:=match p,q with
 |.tup [],.tup b=>.ok (.tup b) h
 |p,q=>vF p q h
theorem yo{K:W.Frag}:eV K T (fun x y H Q=>Es K x y H Q∨wW K x y H Q) aq:=by
 intro F m h H x y p q Q Ew R rp rq w;unfold aq at w
 split at w
 ·obtain⟨pa,va,rfl,ea,ra⟩:=fF R rp;obtain⟨pb,vb,rfl,eb,rb⟩:=fF R rq
  cases ra
  exact .inl ⟨pa,pb,vb,rfl,rfl,ea,eb,aV w R rq⟩
 ·exact .inr (An F m h H x y _ _ Q Ew R rp rq w)
theorem fK(ha:RE X T Ew a fa)(hb:RE X T Ew b fb):RE X T Ew (.BinOp a .Add b pos) (c2 aq fa fb):=by with_unfolding_all exact(
  oa (Nq.or Dl xm) yo ha hb)
end
def PO.pure:PO→Bool
 |.lst xs=>ai xs
 |.dct kvs=>eI kvs
 |.K3 _=>true
def bN:List PO→Bool
 |[]=>true
 |o::r=>o.pure&&bN r
section
variable{K:W.Frag}{T:Tab}{F F1 F2 H H1 H2:Hp}{m m1 m2:List Addr}
theorem iY:∀{h:List PO}{i:Nat}{o:PO},bN h=true→h[i]? =some o→o.pure=true
 |[],_,_,_,e=>by simp at e
 |x::r,0,o,p,e=>by simp only[bN,acf]at p;simp at e;subst e;exact p.1
 |x::r,i+1,o,p,e=>by simp only[bN,acf]at p;exact iY (h:=r) p.2 (by simpa using e)
theorem bp.cut(s:bp F m H F1 m1 H1):bp F m H F1 m H1:=⟨s.fz,⟨[],by simp⟩,s.fr,s.dom,fun i a hi e=>(by rw[List.getElem?_eq_none hi]at e;cases e),s.QZ⟩
theorem Ce.K5{m':List Addr}{a:Addr}{o:PO}(h:Ce K T F m H a o)(p:o.pure=true):Ce K T F m' H a o:=by
 cases o with
 |lst xs=>obtain⟨f,vs,e,r⟩:=h;exact⟨f,vs,e,r.K5 p⟩
 |dct kvs=>obtain⟨f,vs,e,k,r⟩:=h;exact⟨f,vs,e,k,r.K5 (by rw[← fm];exact p)⟩
 |K3 q=>obtain⟨r,pq,o,e⟩:=h;exact⟨r.K5 pq,pq,o,e⟩
theorem RelH.cut{t:List Addr}{h:List PO}(R:RelH K T F (m++t) h H)(p:bN (h.take m.length)=true):RelH K T F m (h.take m.length) H:=by
 have hl:=R.len;rw[List.length_append]at hl;refine⟨R.same,by rw[List.length_take];omega,fun i o a e1 e2=>?_,(List.nodup_append.mp R.nd).1⟩
 have hi:i<m.length:=by
  rcases Nat.lt_or_ge i m.length with q|q
  ·exact q
  ·rw[List.getElem?_eq_none q]at e2;cases e2
 have pp:=iY p e1;rw[List.getElem?_take_of_lt hi]at e1;exact(R.obj i o a e1 (by rw[List.getElem?_append_left hi];exact e2)).K5 pp
end
noncomputable def Sh(K:W.Frag)(T:Tab)(np:Nat)(fn:List PV→List PO→Res PV):Sp:=fun vs H Q E=>∃F m h ps,ps.length=np∧RelH K T F m h H∧ay K T F m ps vs∧aG K T (aH K T) F m H Q E (fn ps h)
theorem wH{K:W.Frag}{T:Tab}{np:Nat}{fn:List PV→List PO→Res PV}{vs:List V}{H:Hp}{Q:VK}{E:XK}(h:Sh K T np fn vs H Q E):vs.length=np:=by obtain⟨F,m,h,ps,e,_,r,_⟩:=h;rw[← r.length];exact e
def gk(n:Nat)(v:PV)(h:List PO):Res PV:=if(bN (h.take n)&&Nat.ble n h.length)=true then .ok v (h.take n)else .bad
def dX(n:Nat)(v:PV)(h:List PO):Res PV:=match ij h v with
 |some (q,h2)=>gk n q h2
 |none=>.bad
def eY(f:Sx)(np n:Nat)(ps:List PV)(h:List PO):Res PV:=if ps.length=np then match f (ps.map some++List.replicate (n - ps.length) none) h with
  |.nx _ h1=>gk h.length .non h1
  |.rt v h1=>dX h.length v h1
  |_=>.bad
 else .bad
def sD(n:Nat)(e:PV)(h:List PO):Res PV:=if(bN (h.take n)&&Nat.ble n h.length&&e.pure)=true then .exc e (h.take n)else .bad
def mR(f:Sx)(np n:Nat)(ps:List PV)(h:List PO):Res PV:=if ps.length=np then match f (ps.map some++List.replicate (n - ps.length) none) h with
  |.nx _ h1=>gk h.length .non h1
  |.rt v h1=>dX h.length v h1
  |.exc e h1=>sD h.length e h1
  |_=>.bad
 else .bad
section
variable{P:Program}{w:World}{K:W.Frag}{mg:Str→Option Value}{base:Heap}{T:Tab}
theorem nY{N:List Str}{F:Hp}{m:List Addr}{ps:List PV}{vs:List V}(r:ay K T F m ps vs):kX K T F m (ps.map some++List.replicate (N.length - ps.length) none) (io N vs):=by
 unfold L2.io;have hl:=r.length;refine⟨by simp[hl],fun i p e=>?_⟩;rcases Nat.lt_or_ge i ps.length with hi|hi
 ·rw[List.getElem?_append_left (by simpa using hi),List.getElem?_map]at e
  cases q:ps[i]? with
  |none=>rw[q]at e;cases e
  |some p'=>
   rw[q]at e
   cases e
   obtain⟨v,h1,h2⟩:=r.get q;exact⟨v,by rw[List.getElem?_append_left (by simp;omega),List.getElem?_map,h1];rfl,h2⟩
 ·rw[List.getElem?_append_right (by simpa using hi)]at e;rw[List.getElem?_replicate]at e
  split at e<;>cases e
theorem lU{F H F' H':Hp}{m m':List Addr}{h h1:List PO}{Q:VK}{Ew:XK}{v:PV}{x:V}(R0:RelH K T F m h H)(s:bp F m H F' m' H')(R:RelH K T F' m' h1 H')(r:aH K T F' m' v x)(pv:v.pure=true)
  (w:aG K T (aH K T) F m H Q Ew (gk h.length v h1)):Q x H':=by
 unfold gk at w
 split at w
 ·rename_i z;rw[acf]at z;obtain⟨t,rfl⟩:=s.pre;rw[R0.len]at w z;exact w F' m H' x s.cut (R.cut z.1) (r.K5 pv)
 ·exact w.elim
theorem DJ{x C_:Str}{st:Stmt}{f:Addr}{fd:FuncData}{N ps:List Str}{k:Nat}{g:Sx}(Fn:Tn K x C_ st f fd)(Sc:gY N ps (aP st))
  (hb:∀(Mg:Value)(A:Around)(outer:List Env)(s:Shared)(H:Hp)(E:XK),cX k (A.deeper (envOfC C_ (aP st) s.heap.objs.size f Mg))→
   RL (jH Py P w K mg base N C_ (aP st) f Mg A outer s H E).U7 T (fun _ _ _=>False) (dD st) g):
  dE P w K mg base Py (k+1) f fd ps (Sh K T ps.length (eY g ps.length N.length)):=by with_unfolding_all
 refine Fn.ok Sc (fun vs H Q E h=>wH h) fun Mg A outer s H vs Q E hr h=>⟨_,hb Mg A outer s H E hr,?_⟩
 obtain⟨F,m,h,qs,hl,R,r,q⟩:=h;refine⟨F,m,_,h,⟨R,nY r⟩,?_⟩;unfold eY at q;rw[if_pos hl]at q
 cases z:g (qs.map some++List.replicate (N.length - qs.length) none) h with
 |nx ρ h1=>rw[z]at q;exact fun F' m' H' σ' s R'=>lU R s R'.toRelH .non rfl q
 |rt p h1=>
  rw[z]at q;intro F' m' H' x s R' rp;dsimp only[dX]at q
  cases y:ij h1 p with
  |none=>rw[y]at q;exact q.elim
  |some ab=>obtain⟨p2,h2⟩:=ab;rw[y]at q;obtain⟨F2,s2,R2,r2,hp⟩:=iF R' rp y;exact lU R (s.trans s2) R2 r2 hp q
 |bk _ _=>rw[z]at q;exact q.elim
 |ct _ _=>rw[z]at q;exact q.elim
 |exc _ _=>rw[z]at q;exact q.elim
 |bad=>rw[z]at q;exact q.elim
theorem yU{F H F' H':Hp}{m m':List Addr}{h h1:List PO}{Q:VK}{Ew:XK}{v:PV}{cls:Value}{dx:Option Addr}(R0:RelH K T F m h H)(s:bp F m H F' m' H')(R:RelH K T F' m' h1 H')(r:kW K T F' m' v cls dx)
  (w:aG K T (aH K T) F m H Q Ew (sD h.length v h1)):Ew cls dx H':=by
 unfold sD at w
 split at w
 ·rename_i z;rw[acf,acf]at z;obtain⟨t,rfl⟩:=s.pre;rw[R0.len]at w z;exact w F' m H' cls dx s.cut (R.cut z.1.1) (r.K5 z.2)
 ·exact w.elim
theorem Bx{x C_:Str}{st:Stmt}{f:Addr}{fd:FuncData}{N ps:List Str}{k:Nat}{g:Sx}(Fn:Tn K x C_ st f fd)(Sc:gY N ps (aP st))
  (hb:∀(Mg:Value)(A:Around)(outer:List Env)(s:Shared)(H:Hp)(E:XK),cX k (A.deeper (envOfC C_ (aP st) s.heap.objs.size f Mg))→
   RL (jH (Qc P w) P w K mg base N C_ (aP st) f Mg A outer s H E) T E (dD st) g):
  dE P w K mg base (Qc P w) (k+1) f fd ps (Sh K T ps.length (mR g ps.length N.length)):=by with_unfolding_all
 obtain⟨oc,od,kV,doc,pm,an,Mg,ct,Qv,rfl,lk,Qw⟩:=Fn.ex;refine By lk Qw Sc (fun vs H Q E h=>wH h) fun A outer s H vs Q E hr h=>⟨_,hb Mg A outer s H E hr,?_⟩
 obtain⟨F,m,h,qs,hl,R,r,q⟩:=h;refine⟨F,m,_,h,⟨R,nY r⟩,?_⟩;unfold mR at q;rw[if_pos hl]at q
 cases z:g (qs.map some++List.replicate (N.length - qs.length) none) h with
 |nx ρ h1=>rw[z]at q;exact fun F' m' H' σ' s R'=>lU R s R'.toRelH .non rfl q
 |rt p h1=>
  rw[z]at q;intro F' m' H' x s R' rp;dsimp only[dX]at q
  cases y:ij h1 p with
  |none=>rw[y]at q;exact q.elim
  |some ab=>obtain⟨p2,h2⟩:=ab;rw[y]at q;obtain⟨F2,s2,R2,r2,hp⟩:=iF R' rp y;exact lU R (s.trans s2) R2 r2 hp q
 |exc e h1=>rw[z]at q;exact fun F' m' H' cls dx s R' rx=>yU R s R' rx q
 |bk _ _=>rw[z]at q;exact q.elim
 |ct _ _=>rw[z]at q;exact q.elim
 |bad=>rw[z]at q;exact q.elim
end
noncomputable def Q8:List PV→List Nat
 |[]=>[]
 |.ref i::r=>i::Q8 r
 |_::r=>Q8 r
noncomputable def Rg:Nat→List PV→List PV
 |_,[]=>[]
 |n,.ref _::r=>.ref n::Rg (n+1) r
 |n,p::r=>p::Rg n r
def ie:List PV→Bool
 |[]=>true
 |.ref _::r=>ie r
 |p::r=>p.pure&&ie r
noncomputable def gh(h:List PO):List Nat→Option (List PO)
 |[]=>some []
 |i::r=>match h[i]? with
  |some o=>match gh h r with
   |some l=>some (o::l)
   |none=>none
  |none=>none
noncomputable def eG:List PO→List Nat→List PO→List PO
 |h,i::r,o::l=>eG (h.set i o) r l
 |h,_,_=>h
noncomputable def hU:List Nat→Bool
 |[]=>true
 |i::r=>!r.contains i&&hU r
theorem qc:∀{l:List Nat},hU l=true→l.Nodup
 |[],_=>List.nodup_nil
 |i::r,h=>by simp only[hU,acf,Bool.not_eq_true',List.contains_eq_mem,decide_eq_false_iff_not]at h;exact List.nodup_cons.mpr ⟨h.1,qc h.2⟩
def cP(fn:List PV→List PO→Res PV)(ps:List PV)(h:List PO):Res PV:=match gh h (Q8 ps)with
 |some hs=>if(ie ps&&bN hs&&hU (Q8 ps))=true then match fn (Rg 0 ps) hs with
   |.ok v RJ=>if v.pure=true∧bN RJ=true∧RJ.length=hs.length then .ok v (eG h (Q8 ps) RJ)else .bad
   |.exc v RJ=>if v.pure=true∧bN RJ=true∧RJ.length=hs.length then .exc v (eG h (Q8 ps) RJ)else .bad
   |.bad=>.bad
  else .bad
 |none=>.bad
def aZ(fn:List PV→List PO→Res PV)(as:Ax):Ex:=fun ρ h=>(as ρ h).bind (cP fn)
section
variable{K:W.Frag}{T:Tab}{F H:Hp}{m:List Addr}{h:List PO}
theorem qY{pre:List Addr}:∀{ps:List PV}{vs:List V}{as:List Addr}{n:Nat},ay K T F m ps vs→ie ps=true→(Q8 ps).map (m[·]?)=as.map some→∀(pre:List Addr),pre.length=n→ay K T F (pre++as) (Rg n ps) vs
 |[],_,_,_,.nil,_,_,_,_=>.nil
 |p::r,_,as,n,.cons r1 r2,ok,e,pre,hn=>by
  by_cases hr:∃i,p=.ref i
  ·obtain⟨i,rfl⟩:=hr
   cases as with
   |nil=>simp[Q8]at e
   |cons a as=>
    simp only[Q8,List.map_cons,List.cons.injEq]at e
    cases r1 with
    |ref em=>
     rw[em]at e;obtain⟨e0,e1⟩:=e
     cases e0
     show ay K T F _ (.ref n::Rg (n+1) r) _;have q:=qY (pre:=pre) (n:=n+1) r2 (by simpa[ie]using ok) e1 (pre++ [a]) (by simp[hn]);rw[List.append_assoc,List.singleton_append]at q;exact .cons (.ref (by rw[List.getElem?_append_right (by omega),hn];simp)) q
  ·have h1:Q8 (p::r)=Q8 r:=by cases p<;>first|rfl|exact(hr ⟨_,rfl⟩).elim
   have h2:Rg n (p::r)=p::Rg n r:=by cases p<;>first|rfl|exact(hr ⟨_,rfl⟩).elim
   have h3:ie (p::r)=(p.pure&&ie r):=by cases p<;>first|rfl|exact(hr ⟨_,rfl⟩).elim
   rw[h3,acf]at ok;rw[h1]at e;rw[h2];exact .cons (r1.K5 ok.1) (qY (pre:=pre) r2 ok.2 e pre hn)
theorem kR:∀{is:List Nat}{hs:List PO},gh h is=some hs→hs.length=is.length
 |[],_,e=>by cases e;rfl
 |i::r,hs,e=>by
  unfold gh at e
  split at e
  ·split at e
   ·cases e;rename_i z;simp[kR z]
   ·cases e
  ·cases e
theorem oQ:∀{is:List Nat}{hs:List PO}{j:Nat}{o:PO},gh h is=some hs→hs[j]? =some o→∃i,is[j]? =some i∧h[i]? =some o
 |[],_,_,_,e,e2=>by cases e;simp at e2
 |i::r,hs,j,o,e,e2=>by
  unfold gh at e
  split at e
  ·split at e
   ·cases e
    rename_i z1 _ _ z2
    cases j with
    |zero=>simp at e2;subst e2;exact⟨i,rfl,z1⟩
    |succ j=>exact oQ (is:=r) (j:=j) z2 (by simpa using e2)
   ·cases e
  ·cases e
theorem IL(R:RelH K T F m h H):∀{is:List Nat}{hs:List PO},gh h is=some hs→∃as:List Addr,is.map (m[·]?)=as.map some
 |[],_,_=>⟨[],rfl⟩
 |i::r,hs,e=>by
  unfold gh at e
  split at e
  ·split at e
   ·rename_i z1 _ _ z2;obtain⟨as,q⟩:=IL R z2
    have hi:i<m.length:=by
     rw[← R.len];rcases Nat.lt_or_ge i h.length with z|z
     ·exact z
     ·rw[List.getElem?_eq_none z]at z1;cases z1
    exact⟨m[i]::as,by simp[q,hi]⟩
   ·cases e
  ·cases e
theorem jK{is:List Nat}{as:List Addr}(e:is.map (m[·]?)=as.map some){j:Nat}{a:Addr}(ea:as[j]? =some a):∃i,is[j]? =some i∧m[i]? =some a:=by
 have q:=congrArg (·[j]?) e;simp only[List.getElem?_map,ea,Option.map_some]at q
 cases z:is[j]? with
 |none=>rw[z]at q;simp at q
 |some i=>rw[z]at q;simp at q;exact⟨i,rfl,q⟩
theorem xQ(hm:m.Nodup):∀{is:List Nat}{as:List Addr},is.map (m[·]?)=as.map some→is.Nodup→as.Nodup
 |[],[],_,_=>List.nodup_nil
 |[],_::_,e,_=>by simp at e
 |_::_,[],e,_=>by simp at e
 |i::r,a::as,e,h=>by
  simp only[List.map_cons,List.cons.injEq]at e;obtain⟨h1,h2⟩:=List.nodup_cons.mp h;refine List.nodup_cons.mpr ⟨fun z=>?_,xQ hm e.2 h2⟩;obtain⟨j,hj⟩:=List.mem_iff_getElem?.mp z;obtain⟨i2,q1,q2⟩:=jK e.2 hj
  have hi:i<m.length:=by
   rcases Nat.lt_or_ge i m.length with z|z
   ·exact z
   ·rw[List.getElem?_eq_none z]at e;cases e.1
  have Za:i2<m.length:=by
   rcases Nat.lt_or_ge i2 m.length with z|z
   ·exact z
   ·rw[List.getElem?_eq_none z]at q2;cases q2
  have e1:=e.1;rw[List.getElem?_eq_getElem hi,Option.some.injEq]at e1;rw[List.getElem?_eq_getElem Za,Option.some.injEq]at q2;have:i=i2:=(List.getElem_inj hm).mp (e1.trans q2.symm);subst this;exact h1 (List.mem_of_getElem? q1)
theorem oh:∀(is:List Nat)(hs h:List PO),(eG h is hs).length=h.length
 |[],_,_=>by simp[eG]
 |_::_,[],_=>by simp[eG]
 |i::r,o::l,h=>by simp[eG,oh r l]
theorem iX:∀{is:List Nat}{hs h:List PO}{j:Nat},j∉is→(eG h is hs)[j]? =h[j]?
 |[],_,_,_,_=>by simp[eG]
 |_::_,[],_,_,_=>by simp[eG]
 |i::r,o::l,h,j,n=>by simp only[List.mem_cons,not_or]at n;rw[eG,iX n.2,List.getElem?_set_ne (fun z=>n.1 z.symm)]
theorem pW:∀{is:List Nat}{hs h:List PO}{j i:Nat},is.Nodup→is[j]? =some i→i<h.length→j<hs.length→(eG h is hs)[i]? =hs[j]?
 |[],_,_,_,_,_,e,_,_=>by simp at e
 |_::_,[],_,_,_,_,_,_,q=>by simp at q
 |i0::r,o::l,h,j,i,nd,e,hi,q=>by
  obtain⟨n1,n2⟩:=List.nodup_cons.mp nd
  cases j with
  |zero=>simp at e;subst e;rw[eG,iX n1,List.getElem?_set_self hi];rfl
  |succ j=>rw[eG,pW (j:=j) n2 (by simpa using e) (by simpa using hi) (by simpa using q)];simp
end
section
variable{X:Cx}{T:Tab}{Ew:XK}{e:Expr}{es:List Expr}{fs:Ax}{pos p0:Pos}{k:Nat}{f:Addr}{fd:FuncData}{ps:List Str}{fn:List PV→List PO→Res PV}{x:Str}
theorem wb{F H:Hp}{m:List Addr}{h:List PO}{Q:VK}{K:W.Frag}{np:Nat}{qs:List PV}{vs:List V}(S7:∀qs hs,fn qs hs≠.bad→qs.length=np)(R:RelH K T F m h H)(r:ay K T F m qs vs)(w:aG K T (aH K T) F m H Q Ew (cP fn qs h)):Sh K T np fn vs H Q Ew:=by
 unfold cP at w
 cases z:gh h (Q8 qs)with
 |none=>rw[z]at w;exact w.elim
 |some hs=>
  rw[z]at w;dsimp only at w
  split at w
  ·rename_i c;simp only[acf]at c;obtain⟨⟨c1,c2⟩,c3⟩:=c;have nd:=qc c3;obtain⟨as,ea⟩:=IL R z
   have Mi:hs.length=as.length:=by have:=congrArg List.length ea;simp only[List.length_map]at this;rw[kR z,this]
   have nda:=xQ R.nd ea nd
   have R1:RelH K T F as hs H:=⟨R.same,Mi,fun j o a e1 e2=>by obtain⟨i,q1,q2⟩:=oQ z e1;obtain⟨i2,q3,q4⟩:=jK ea e2;rw[q1]at q3;cases q3;exact(R.obj i o a q2 q4).K5 (iY c2 e1),nda⟩
   have r1:ay K T F as (Rg 0 qs) vs:=by have:=qY (pre:=[]) (n:=0) r c1 ea [] rfl;simpa using this
   have back:∀{RJ:List PO}{F' H':Hp}{m':List Addr},bN RJ=true→RJ.length=hs.length→bp F as H F' m' H'→RelH K T F' m' RJ H'→bp F m H F' m H'∧RelH K T F' m (eG h (Q8 qs) RJ) H':=by
    intro RJ F' H' m' d2 d3 s R2;obtain⟨t,rfl⟩:=s.pre
    have ht:t= []:=by
     have:=R2.len;rw[d3,Mi,List.length_append]at this
     cases t with
     |nil=>rfl
     |cons a b=>simp at this
    subst ht;rw[List.append_nil]at R2 s
    have sub:∀a,a∈as→a∈m:=fun a ha=>by obtain⟨j,hj⟩:=List.mem_iff_getElem?.mp ha;obtain⟨i,_,q⟩:=jK ea hj;exact List.mem_of_getElem? q
    refine⟨⟨s.fz,⟨[],by simp⟩,fun b o hb n=>s.fr b o hb fun q=>n (sub _ q),s.dom,fun i a hi e=>(by rw[List.getElem?_eq_none hi]at e;cases e),fun a o e=>(s.QZ a o e).imp id (Or.imp id (sub a))⟩,?_⟩;refine⟨R2.same,by rw[oh];exact R.len,fun i o a e1 e2=>?_,R.nd⟩
    have him:i<m.length:=by
     rcases Nat.lt_or_ge i m.length with q|q
     ·exact q
     ·rw[List.getElem?_eq_none q]at e2;cases e2
    by_cases hi:i∈Q8 qs
    ·obtain⟨j,hj⟩:=List.mem_iff_getElem?.mp hi
     have hjl:j<RJ.length:=by
      rw[d3,kR z];rcases Nat.lt_or_ge j (Q8 qs).length with q|q
      ·exact q
      ·rw[List.getElem?_eq_none q]at hj;cases hj
     rw[pW nd hj (by rw[R.len];exact him) hjl]at e1;have hja:j<as.length:=by rw[← Mi,← d3];exact hjl
     have ej:as[j]? =some a:=by obtain⟨i2,q1,q2⟩:=jK ea (List.getElem?_eq_getElem hja);rw[hj]at q1;cases q1;rw[e2]at q2;rw[List.getElem?_eq_getElem hja,q2]
     exact(R2.obj j o a e1 ej).K5 (iY d2 e1)
    ·rw[iX hi]at e1
     have na:a∉as:=fun q=>by
      obtain⟨j,hj⟩:=List.mem_iff_getElem?.mp q;obtain⟨i2,q1,q2⟩:=jK ea hj
      have Za:i2<m.length:=by
       rcases Nat.lt_or_ge i2 m.length with q|q
       ·exact q
       ·rw[List.getElem?_eq_none q]at q2;cases q2
      rw[List.getElem?_eq_getElem him,Option.some.injEq]at e2;rw[List.getElem?_eq_getElem Za,Option.some.injEq]at q2;have:i=i2:=(List.getElem_inj R.nd).mp (e2.trans q2.symm);subst this;exact hi (List.mem_of_getElem? q1)
     have live:∀{u},F a=none→H a=some u→F' a=none:=fun n hu=>by
      cases z:F' a with
      |none=>rfl
      |some o=>
       rcases s.QZ a o z with y|y|y
       ·rw[n]at y;cases y
       ·rw[hu]at y;cases y
       ·exact(na y).elim
     have mono:∀{ps us},ay K T F m ps us→ay K T F' m ps us:=fun r=>r.mono s.fz fun _ _ h=>h;have q:=R.obj i o a e1 e2
     cases o with
     |lst xs=>obtain⟨f0,ws,z,rr⟩:=q;exact⟨live f0 z,ws,s.fr _ _ z na,mono rr⟩
     |dct xs=>obtain⟨f0,ws,z,kk,rr⟩:=q;exact⟨live f0 z,ws,s.fr _ _ z na,kk,mono rr⟩
     |K3 p'=>obtain⟨r1,r3,o,r4⟩:=q;exact⟨r1.mono s.fz fun _ _ h=>h,r3,o,s.fz _ _ r4⟩
   have ln:fn (Rg 0 qs) hs≠.bad→(Rg 0 qs).length=np:=S7 _ _
   cases y:fn (Rg 0 qs) hs with
   |bad=>rw[y]at w;exact w.elim
   |exc v RJ=>
    rw[y]at w ln;dsimp only at w
    split at w
    ·rename_i d;refine⟨F,as,hs,Rg 0 qs,ln (fun z=>by cases z),R1,r1,?_⟩;rw[y];intro F' m' H' cls dx s R2 rx;obtain⟨s3,R3⟩:=back d.2.1 d.2.2 s R2;exact w F' m H' cls dx s3 R3 (rx.K5 d.1)
    ·exact w.elim
   |ok v RJ=>
    rw[y]at w ln;dsimp only at w
    split at w
    ·rename_i d;refine⟨F,as,hs,Rg 0 qs,ln (fun z=>by cases z),R1,r1,?_⟩;rw[y];intro F' m' H' x s R2 rx;obtain⟨s3,R3⟩:=back d.2.1 d.2.2 s R2;exact w F' m H' x s3 R3 (rx.K5 d.1)
    ·exact w.elim
  ·exact w.elim
theorem HY{X:Cx}{E:XK}:fE Py X E:=fun _ _ _ _ _ _ _ h=>h.elim
theorem ua{CX:S_}(F:dE X.prog X.w X.K X.mg X.base CX k f fd ps (Sh X.K T ps.length fn))(S7:∀qs hs,fn qs hs≠.bad→qs.length=ps.length)(hp:fE CX X Ew)(hr:cX k X.A)(hg:Gl X x)(hm:X.mg x=some (.ref f))(hk:W.keepIn X.K (.ref f)=true)(hb:fh X.K fd ps [])
  (ha:RA X T Ew (e::es) fs) (O1:nD0 x:=by decide)(he:sE0 X e es:=by rfl) (Ng:sP0 X es pos:=by rfl):
  RE X T Ew (.Call (.Name x p0) (e::es) [] pos) (aZ fn fs):=by with_unfolding_all
 refine PE.imp (xk F hr hg hm hk hb .nil hp ha O1 he Ng) ?_;rintro σ H Q ⟨F,m,ρ,h,R,p⟩;refine⟨F,m,ρ,h,R,(aG.bind p).mono ?_⟩;rintro vs H1 ⟨F1,m1,h1,qs,s1,R1,r1,w1⟩
 rw[List.append_nil];exact wb S7 R1 r1 w1
theorem zW(F:dE X.prog X.w X.K X.mg X.base Py k f fd ps (Sh X.K T ps.length fn))(S7:∀qs hs,fn qs hs≠.bad→qs.length=ps.length)(hr:cX k X.A)(hg:Gl X x)(hm:X.mg x=some (.ref f))(hk:W.keepIn X.K (.ref f)=true)(hb:fh X.K fd ps [])
  (ha:RA X T Ew (e::es) fs) (O1:nD0 x:=by decide)(he:sE0 X e es:=by rfl) (Ng:sP0 X es pos:=by rfl):
  RE X T Ew (.Call (.Name x p0) (e::es) [] pos) (aZ fn fs):=ua F S7 HY hr hg hm hk hb ha O1 he Ng
theorem zL{f:Sx}{np n:Nat}:∀qs hs,eY f np n qs hs≠.bad→qs.length=np:=fun qs hs e=>by
 unfold eY at e
 split at e
 ·assumption
 ·exact absurd rfl e
theorem nW{f:Sx}{np n:Nat}:∀qs hs,mR f np n qs hs≠.bad→qs.length=np:=fun qs hs e=>by
 unfold mR at e
 split at e
 ·assumption
 ·exact absurd rfl e
end
abbrev U0:=List PV→Ev→Option Ev
@[irreducible] def Yd(X:Cx)(T:Tab)(es:List Expr)(g:U0):Prop:=Ui X es (fun vs σ H Q=>∃F m ρ h ps ρ',gP X.K T F m ρ h σ H∧ay X.K T F m ps vs∧g ps ρ=some ρ'∧∀ σ',kX X.K T F m ρ' σ'→Q σ' H)
noncomputable def bW:U0:=fun ps ρ=>match ps with
 |[]=>some ρ
 |_=>none
noncomputable def aE(g:Gx)(gs:U0):U0:=fun ps ρ=>match ps with
 |p::r=>match g p ρ with
  |some ρ1=>gs r ρ1
  |none=>none
 |[]=>none
noncomputable def Oz(n:Nat)(gs:U0):Gx:=fun p ρ=>match p with
 |.tup ps=>if ps.length=n then gs ps ρ else none
 |_=>none
def zK(g:Gx)(f:Ex):Sx:=fun ρ h=>dY (f ρ h) fun v h1=>match g v ρ with
 |some ρ1=>.nx ρ1 h1
 |none=>.bad
section
variable{X:Cx}{T:Tab}{Ew:XK}{e tg:Expr}{es:List Expr}{f:Ex}{g:Gx}{gs:U0}{pos:Pos}
theorem PG.imp{t t':TG}(h:PG X e t)(i:∀v σ H Q,t' v σ H Q→t v σ H Q):PG X e t':=fun pins s σ H v u Q I r q=>h pins s σ H v u Q I r (i _ _ _ _ q)
theorem Ui.imp{t t':Vg}(h:Ui X es t)(i:∀v σ H Q,t' v σ H Q→t v σ H Q):Ui X es t':=fun pins s σ H v u Q I r q=>h pins s σ H v u Q I r (i _ _ _ _ q)
theorem rc:Yd X T [] bW:=by with_unfolding_all
 refine Ui.imp Db ?_;rintro vs σ H Q ⟨F,m,ρ,h,ps,ρ',R,r,e,q⟩
 cases r with
 |nil=>cases e;exact⟨rfl,q _ R.env⟩
 |cons _ _=>cases e
theorem jr(h1:RG X T e g)(h2:Yd X T es gs)(hs:(assignEach (e::es) X.env).map (·.2)=assign e X.env::(assignEach es X.env).map (·.2):=by rfl):Yd X T (e::es) (aE g gs):=by with_unfolding_all
 refine Ui.imp (Aw h1 h2 hs) ?_;rintro vs σ H Q ⟨F,m,ρ,h,ps,ρ',R,r,e,q⟩
 cases r with
 |nil=>cases e
 |@cons p v r vr r1 r2=>
  have e:(match g p ρ with|some ρ1=>gs r ρ1|none=>none)=some ρ':=e
  cases z:g p ρ with
  |none=>rw[z]at e;cases e
  |some ρ1=>rw[z]at e;exact⟨v,vr,rfl,F,m,ρ,h,p,ρ1,R,r1,z,fun σ1 R1=>⟨F,m,ρ1,h,r,ρ',⟨R.toRelH,R1⟩,r2,e,q⟩⟩
theorem vt{n k:Nat}(h:Yd X T es gs)(hc:X.calm=true:=by rfl)(hn:(assignEach es X.env).length=n:=by rfl)(YT:(assignEach es X.env).findIdx? (·.1)=none:=by rfl):RG X T (.Tuple es k pos) (Oz n gs):=by with_unfolding_all
 refine PG.imp (FU hc h hn YT) ?_;rintro v σ H Q ⟨F,m,ρ,h,p,ρ',R,r,e,q⟩
 cases r with
 |@tup ps a vs sq rr=>
  have e:(if ps.length=n then gs ps ρ else none)=some ρ':=e
  split at e
  ·rename_i hl;exact⟨a,vs,rfl,R.same.Qs sq,by rw[← rr.length];exact hl,F,m,ρ,h,ps,ρ',R,rr,e,q⟩
  ·cases e
 |_=>cases e
theorem Fy(ha:RE X T Ew e f)(hg:RG X T tg g)(hs:swapsWithSole [tg] e pos.line X.env=pure false:=by rfl)(hw:swappedStores [tg] e X.env=pure none:=by rfl)
  (h1:(assignEach [tg] X.env).map (·.2)=[assign tg X.env]:=by rfl):RS X T Ew (.Assign [tg] e pos) (zK g f):=by with_unfolding_all
 refine PS.imp (Ah ha hg hs hw h1) ?_;rintro D σ H ⟨F,m,ρ,h,R,p⟩;refine⟨F,m,ρ,h,R,(gf p).mono ?_⟩;rintro v H1 ⟨F1,m1,h1,q,s1,R1,r1,w1⟩
 cases z:g q ρ with
 |none=>rw[z]at w1;exact w1.elim
 |some ρ1=>rw[z]at w1;exact⟨F1,m1,ρ,h1,q,ρ1,R.of s1 R1,r1,z,fun σ1 E1=>w1 F1 m1 H1 σ1 .refl ⟨R1,E1⟩⟩
end
noncomputable def yv(ps:List PV)(h:List PO):Res PV:=match ps with
 |[.int i,.int j]=>.ok (.int (if j>i then j else i)) h
 |_=>.bad
section
variable{X:Cx}{T:Tab}{Ew:XK}{pos p0:Pos}
theorem FF{e:Expr}{es:List Expr}{f:Ax}(hg:Gl X "max")(hm:X.mg "max"=none)(ha:RA X T Ew (e::es) f)(hc:X.calm=true:=by rfl)
  (he:sE0 X e es:=by rfl) (Ng:sP0 X es pos:=by rfl):
  RE X T Ew (.Call (.Name "max" p0) (e::es) [] pos) (cN yv f):=by with_unfolding_all exact(lF (yX hc) (by
 intro F m h H xs ps Q Ew R rp w;unfold yv at w
 split at w
 ·obtain⟨x,y,rfl,rx,ry⟩:=rp.two
  cases rx
  cases ry
  exact⟨_,_,rfl,aV w R (.int _)⟩
 ·exact w.elim) hg hm (by decide+kernel) ha (by decide) (by decide) he Ng)
end
end L3
namespace L2
open PySem PySem.Spec PyProof.Rows
section
variable{prog:Program}{w:World}{A:Around}{E:Value→Shared→Prop}{s:Shared}{it t:Addr}{i:Nat}{items:Array Value}
theorem ui{Q:Value→Shared→Prop}(hit:s.heap.IsTupleIter it t i)
  (go:wpAny (model prog w) A.in1 (Builtin.«tuple_iterator.__next__» ⟨[.ref it],[]⟩) (fun fin s'=>∃v,fin=.done (.ret v)∧Q v s') E s):wpAny (model prog w) A (Builtin.SmallTypes.nextOf (.ref it)) Q E s:=by
 have ty:=hit.typeIs;have c:=wpAny_callSpecial?_slot (E:=E) (name:="__next__") (Q:=fun r s'=>∃v,r=some v∧Q v s') ty F.slot_tuple_iterator_next (wpAny_call_entry F.slot_tuple_iterator_next ty F.entry_tuple_iterator_next (wpAny_mono go ((by rintro fin s' ⟨v,e,q⟩;exact ⟨v,e,v,rfl,q⟩)) fun _ _ z=>z) (F.args_tuple_iterator_next_1 _));unfold Builtin.SmallTypes.nextOf;exact wpAny_bind (wpAny_mono c ((by rintro r s' ⟨v,e,q⟩;subst e;exact wpAny_pure q)) fun _ _ z=>z)
theorem yf{x:Value}{Q:Value→Shared→Prop}(hit:s.heap.IsTupleIter it t i)(ht:s.heap.IsTuple t items)(hx:items[i]? =some x)(hQ:∀h',h'.IsTupleIter it t (i+1)→Heap.SameBut it s.heap h'→Q x { s with heap:=h' }):
  wpAny (model prog w) A (Builtin.«tuple_iterator.__next__» ⟨[.ref it],[]⟩) (fun fin s'=>∃v,fin=.done (.ret v)∧Q v s') E s:=by
 obtain⟨o,ho,hc,hd⟩:=id hit;obtain⟨p,hp,_,n,Ze⟩:=ht;have nn:¬ ((Value.ref t==Value.none)=true):=Bool.false_ne_true;refine(show wpAny (model prog w) A (field (.ref it) 0 >>= _) _ E s from wpAny_bind (wpAny_field ho hd (x:=.ref t) rfl ?_));refine(show wpAny (model prog w) A (if(Value.ref t==Value.none)=true then _ else _) _ E s from ?_);rw[if_neg nn];refine(show wpAny (model prog w) A (field (.ref it) 1 >>= _) _ E s from wpAny_bind (wpAny_field ho hd (x:=.int i 0) rfl ?_));refine(show wpAny (model prog w) A (seqItems? (.ref t) >>= _) _ E s from wpAny_bind (wpAny_seqItems hp Ze ?_));simp only[Int.toNat_natCast,hx];have st:∀f,(o.mapFields f).data=.fields (f #[.ref t,.int i 0]):=fun f=>Obj.data_mapFields hd f;refine wpAny_bind (wpAny_setField ho hd (by simp) (wpAny_pure ⟨x,rfl,hQ _ ⟨_,Heap.get?_update_self _ ho (Obj.isFreed_of_fields (Obj.data_mapFields hd _)),?_,?_⟩ (Heap.SameBut.update ..)⟩))
 ·rw[Obj.cls_mapFields];exact hc
 ·rw[Obj.data_mapFields hd];simp[rawInt]
theorem zO{Q:Fin→Shared→Prop}(hh:A.handled=none)(hit:s.heap.IsTupleIter it t i)(ht:s.heap.IsTuple t items)(hx:items[i]? =none)
  (hE:∀h' e,Heap.ExtBut it s.heap h'→(∃o,h'.get? e=some o∧o.cls=.type "StopIteration")→E (.ref e) { s with heap:=h' }):
  wpAny (model prog w) A (Builtin.«tuple_iterator.__next__» ⟨[.ref it],[]⟩) Q E s:=by
 obtain⟨o,ho,hc,hd⟩:=id hit;obtain⟨p,hp,_,n,Ze⟩:=ht;have nn:¬ ((Value.ref t==Value.none)=true):=Bool.false_ne_true;refine(show wpAny (model prog w) A (field (.ref it) 0 >>= _) _ E s from wpAny_bind (wpAny_field ho hd (x:=.ref t) rfl ?_));refine(show wpAny (model prog w) A (if(Value.ref t==Value.none)=true then _ else _) _ E s from ?_);rw[if_neg nn];refine(show wpAny (model prog w) A (field (.ref it) 1 >>= _) _ E s from wpAny_bind (wpAny_field ho hd (x:=.int i 0) rfl ?_));refine(show wpAny (model prog w) A (seqItems? (.ref t) >>= _) _ E s from wpAny_bind (wpAny_seqItems hp Ze ?_));simp only[Int.toNat_natCast,hx];refine wpAny_bind (wpAny_rule (wpAny_bind (wpAny_setField ho hd (by simp) (wpAny_bind ?_))));simp only[newExc,newTuple];refine wpAny_bind (wpAny_newObj_type (wpAny_bind (m:=firstArgMember _ _) (wpAny_of_eq (a:=Value.none) (by first|rfl|(simp only[firstArgMember];rfl)) (wpAny_newObj_type ?_ (by size_fits)))) (by size_fits));simp only[raiseNew];refine wpAny_bind (wpAny_handled ?_);rw[hh];exact wpAny_bind (wpAny_pure (wpAny_throw (hE _ _ (((Heap.SameBut.update ..).extBut.push _).push _) ⟨_,Heap.get?_push_size _ rfl,rfl⟩)))
theorem GI(hh:A.handled=none)(ne:t≠it):Draws prog w A.in1 it [it,t] items.size (fun j v=>items[j]? =some v) (fun j h=>h.IsTupleIter it t j∧h.IsTuple t items) where
 live:=fun j h st=>by obtain⟨o,ho,_⟩:=st.1;exact⟨o,ho⟩
 frame:=fun j h h' st k=>by obtain⟨⟨o,ho,r⟩,⟨p,hp,q⟩⟩:=st;exact⟨⟨o,k _ (by simp) o ho,r⟩,⟨p,k _ (by simp) p hp,q⟩⟩
 item:=fun j s Q E hj st hQ=>ui st.1 (yf st.1 st.2 (x:=items[j]) (by simp[hj]) fun h' RM sb=>hQ _ h' s.toks (by simp[hj]) ⟨RM,st.2.extBut sb.extBut ne⟩ sb)
 done:=fun s Q E st hE=>ui st.1 (zO (A:=A.in1.in1) hh st.1 st.2 (by simp) hE)
noncomputable def uH(a:Addr):Obj:={ cls:=.type "enumerate",data:=.fields #[.none,.bool false,.ref a,rawInt 0,.none,.none] }
noncomputable def tF(a:Addr):Obj:={ cls:=.type "tuple_iterator",data:=.fields #[.ref a,.int 0 0] }
theorem yC(a:Addr)(xs:Array Value)(o:Obj)(hc:o.cls=.type "tuple")(n:Nat)(hd:o.data=.seq xs n):Meets (Builtin.«enumerate.__new__» ⟨[.type "enumerate",.ref a],[]⟩) (fun _ R s=>s.heap.get? a=some o∧
   R (.ok (.ret (.ref (s.heap.push (tF a)).objs.size))) { s with heap:=(s.heap.push (tF a)).push (uH s.heap.objs.size) }):=
 .of_wp fun P1 w1 A1 R s ⟨hl,h⟩=>by
  cases s with
  |mk hp gs dd tk os=>
  have sub:=sub_enumerate;have tt:Heap.IsTuple hp a xs:=⟨o,hl,hc,n,hd⟩
  wp_walk using AutoSeq1.wpAny_loadPart' hl
  refine wpAny_stack_any fun st=>wpAny_pure ?_
  split
  ·rename_i c _ _ _ _ _
   by_cases e:(c==Value.type "enumerate")=true
   ·rw[e];wp_walk using AutoSeq1.wpAny_loadPart' hl,wpAny_pyIter_tuple tt;exact⟨_,rfl,h⟩
   ·rw[Bool.not_eq_true]at e;rw[e];wp_walk using AutoSeq1.wpAny_loadPart' hl,wpAny_pyIter_tuple tt;exact⟨_,rfl,h⟩
  ·wp_walk using AutoSeq1.wpAny_loadPart' hl,wpAny_pyIter_tuple tt;exact⟨_,rfl,h⟩
theorem vZ{Q:Value→Shared→Prop}(ht:s.heap.IsTuple t items)(h:Q (.ref (s.heap.objs.size+1)) { s with heap:=(s.heap.push (tF t)).push (uH s.heap.objs.size) }):wpAny (model prog w) A (call (.type "enumerate") [.ref t]) Q E s:=by obtain⟨o,ho,hc,n,hd⟩:=ht;have z:(s.heap.push (tF t)).objs.size=s.heap.objs.size+1:=Heap.size_push ..;have g:=Heap.get?_push_size (s.heap.push (tF t)) (o:=uH s.heap.objs.size) rfl;refine callType_new F.called_enumerate (by decide) (F.typeCall_enumerate_1 _) (F.newCall_enumerate_1 _) (fun obj=>F.args_object_init_2 obj _) F.entry_enumerate_new (yC t items o hc n hd) ⟨ho,?_⟩;exact⟨⟨_,g,rfl⟩,by rw[z];exact h⟩
end
section
variable{X:Cx}{pins:List (Addr×Obj)}{σ:St}{H:Hp}{s:Shared}{h':Heap}
theorem Inv.Uk{t':Nat}{c d:Addr}(I:Inv X pins σ H s)(k:∀b o,b≠c→b≠d→s.heap.get? b=some o→h'.get? b=some o)(fc:kh X pins H c)(fd:kh X pins H d):Inv X pins σ H { s with heap:=h',toks:=t' }:=by
 have k2:∀b o,b∉ [c,d]→s.heap.get? b=some o→h'.get? b=some o:=fun b o hb e=>k b o (fun z=>hb (by simp[z])) (fun z=>hb (by simp[z])) e
 have nt:∀b u,H b=some u→b∉ [c,d]:=fun b u e z=>by
  rcases List.mem_cons.mp z with z|z
  ·rw[z,fc.1]at e;cases e
  ·rw[List.mem_singleton.mp z,fd.1]at e;cases e
 have nl:X.env.locals∉ [c,d]:=fun z=>by
  rcases List.mem_cons.mp z with z|z
  ·exact fc.2.1 z.symm
  ·exact fd.2.1 (List.mem_singleton.mp z).symm
 refine I.step (g':=s.gens) (d':=s.drawn) (ch:=[c,d]) (fun b hb=>?_) (fun b o _ _ hc e _=>k2 b o hc e) (fun b o _ _ hc e _=>⟨o.slots,k2 b o hc e⟩) (fun _ _ _ _ n=>n)
  (fun b o hc e=>⟨o,k2 b o hc e⟩) (fun _ _ e=>e) (fun _ _ _ e=>e) (fun b ps e=>⟨#[],by rw[e];simp⟩) (fun m hm=>?_) (fun b u e=>?_) I.bare
 ·rcases List.mem_cons.mp hb with z|z
  ·subst z;exact⟨fc.2.2.2.1,fc.2.1,fc.2.2.2.2.1,fc.2.2.2.2.2⟩
  ·rw[List.mem_singleton.mp z];exact⟨fd.2.2.2.1,fd.2.1,fd.2.2.2.2.1,fd.2.2.2.2.2⟩
 ·obtain⟨o,es,ep,ho,r⟩:=hm;exact⟨o,es,ep,k2 _ o nl ho,r⟩
 ·refine(I.hok b u e).stay (fun c v hc q=>k2 c v ?_ q) (fun _ q=>q) fun _ _ q=>q;rcases hc with z|z
  ·rw[z];exact nt b u e
  ·exact nt c _ z
theorem Inv.Tp{t':Nat}{c d a:Addr}{o:HO}(I:Inv X pins σ H s)(k:∀b o,b≠c→b≠d→s.heap.get? b=some o→h'.get? b=some o)(fc:kh X pins H c)(fd:kh X pins H d)(hp:s.heap.objs.size≤a)(new:bR X.prog X.w (upd H a o) h' a o):
  Inv X pins σ (upd H a o) { s with heap:=h',toks:=t' }:=by
 have hn:H a=none:=I.hok.fresh hp;have k2:∀b o,b∉ [c,d]→s.heap.get? b=some o→h'.get? b=some o:=fun b o hb e=>k b o (fun z=>hb (by simp[z])) (fun z=>hb (by simp[z])) e
 have nt:∀b u,H b=some u→b∉ [c,d]:=fun b u e z=>by
  rcases List.mem_cons.mp z with z|z
  ·rw[z,fc.1]at e;cases e
  ·rw[List.mem_singleton.mp z,fd.1]at e;cases e
 have nl:X.env.locals∉ [c,d]:=fun z=>by
  rcases List.mem_cons.mp z with z|z
  ·exact fc.2.1 z.symm
  ·exact fd.2.1 (List.mem_singleton.mp z).symm
 refine I.step (g':=s.gens) (d':=s.drawn) (ch:=[c,d]) (fun b hb=>?_) (fun b o _ _ hc e _=>k2 b o hc e) (fun b o _ _ hc e _=>⟨o.slots,k2 b o hc e⟩) (fun b ob _ q n=>by rw[ak (Nat.ne_of_lt (Nat.lt_of_lt_of_le (Heap.lt_size q) hp))];exact n)
  (fun b o hc e=>⟨o,k2 b o hc e⟩) (fun b xs q=>by rw[ak (aD q hn)];exact q) (fun b u xs q=>by rw[ak (aD q hn)];exact q) (fun b ps q=>⟨#[],by rw[ak (aD q hn),q];simp⟩) (fun m hm=>?_) (fun b u e=>?_) I.bare
 ·rcases List.mem_cons.mp hb with z|z
  ·subst z;exact⟨fc.2.2.2.1,fc.2.1,fc.2.2.2.2.1,fc.2.2.2.2.2⟩
  ·rw[List.mem_singleton.mp z];exact⟨fd.2.2.2.1,fd.2.1,fd.2.2.2.2.1,fd.2.2.2.2.2⟩
 ·obtain⟨o,es,ep,ho,r⟩:=hm;exact⟨o,es,ep,k2 _ o nl ho,r⟩
 ·by_cases hb:b=a
  ·subst hb;rw[aJ]at e;cases e;exact new
  ·rw[ak hb]at e;refine(I.hok b u e).stay (fun c v hc q=>k2 c v ?_ q) (fun c q=>by rw[ak (aD q hn)];exact q) fun c xs q=>by rw[ak (aD q hn)];exact q
   rcases hc with z|z
   ·rw[z];exact nt b u e
   ·exact nt c _ z
end
def Ite(sq:Hp→List V→Prop):It:=
 ⟨fun i H=>∃xs x,sq H xs∧xs[i]? =some x,fun i H x H'=>∃p y,H p=none∧x=.ref p∧H'=upd H p (.tup [.int i,y])∧∀xs,sq H xs→xs[i]? =some y,fun i H=>∃xs,sq H xs∧xs.length=i⟩
section
variable{P:Program}{w:World}{K:W.Frag}{elts:List Expr}{k:Nat}{pos:Pos}
structure Src(P:Program)(w:World)(K:W.Frag)(a it:Addr)(sq:Hp→List V→Prop)(ii:Nat→Heap→Prop):Prop where
 obj:∀j h,ii j h→∃o,h.get? it=some o∧∀v,o.data≠.cell v
 keep:∀j h h',ii j h→(∀o,h.get? it=some o→h'.get? it=some o)→ii j h'
 inj:∀(X:Cx) pins σ H s xs ys,X.K=K→Inv X pins σ H s→sq H xs→sq H ys→xs=ys
 get:∀(X:Cx) pins σ H s xs,X.prog=P→X.w=w→X.K=K→X.calm=true→Inv X pins σ H s→sq H xs→∃(its:List Value)(St:Nat→Heap→Prop),bh xs its∧Draws P w X.A.in1 it [it,a] its.length (fun j v=>its[j]? =some v) St∧(∀j,ii j s.heap→St j s.heap)∧∀j h,St j h→ii j h
theorem Ct{a it:Addr}(n2:a≠it):Src P w K a it (fun H xs=>NP K H a xs) (fun j h=>h.IsTupleIter it a j) where
 obj:=(by rintro j h ⟨o,ho,c,d⟩;exact ⟨o,ho,fun v z=>by rw[d]at z;cases z⟩)
 keep:=(by rintro j h h' ⟨o,ho,r⟩ k;exact ⟨o,k o ho,r⟩)
 inj:=fun X pins σ H s xs ys hK I h1 h2=>by subst hK;exact I.Q5 h1 h2
 get:=fun X pins σ H s xs hP hw hK hc I hq=>by subst hP hw hK;obtain⟨its,rv,p,hz⟩:=I.tuple hq;exact⟨its,(fun j h=>h.IsTupleIter it a j∧h.IsTuple a its.toArray),rv,by simpa using GI (items:=its.toArray) (I.ok.hd hc) n2,fun j q=>⟨q,p⟩,fun j h q=>q.1⟩
theorem Cu{a it:Addr}(n2:a≠it):Src P w K a it (fun H xs=>M_ K H a xs) (fun j h=>h.IsListIter it a j) where
 obj:=(by rintro j h ⟨o,ho,c,d⟩;exact ⟨o,ho,fun v z=>by rw[d]at z;cases z⟩)
 keep:=(by rintro j h h' ⟨o,ho,r⟩ k;exact ⟨o,k o ho,r⟩)
 inj:=fun X pins σ H s xs ys hK I h1 h2=>by subst hK;exact I.Rq h1 h2
 get:=fun X pins σ H s xs hP hw hK hc I hq=>by subst hP hw hK;obtain⟨its,rv,p,hz⟩:=I.list hq;exact⟨its,(fun j h=>h.IsListIter it a j∧h.IsList a its.toArray),rv,by simpa using Draws.list (A:=X.A.in1) (I.ok.hd hc) it a n2 its.toArray,fun j q=>⟨q,p.isList⟩,fun j h q=>q.1⟩
theorem pP{sq:Hp→List V→Prop}{ii:Nat→Heap→Prop}{a e it:Addr}(S:Src P w K a it sq ii)(ne:e≠it)(n1:a≠e):zg P w K (.Tuple elts k pos) (Ite sq) [e,it] e (fun i h=>(∃old,IsEnum h e it i old)∧ii i h) where
 mem:=by simp
 obj:=fun i h st b hb=>by
  obtain⟨⟨old,he⟩,hi⟩:=st;rcases List.mem_cons.mp hb with z|z
  ·subst z;exact⟨_,he,fun v z=>by cases z⟩
  ·rw[List.mem_singleton.mp z];exact S.obj _ _ hi
 keep:=fun i h h' st q=>by obtain⟨⟨old,he⟩,hi⟩:=st;exact⟨⟨old,q e (by simp) _ he⟩,S.keep _ _ _ hi fun o ho=>q it (by simp) _ ho⟩
 item:=by
  intro X hP hw hK hc i pins s σ H E I hf st hg;obtain⟨xs,x,hq,hx⟩:=hg;obtain⟨⟨old,he⟩,hi⟩:=st;obtain⟨its,St,rv,D,t1,t2⟩:=S.get X pins σ H s xs hP hw hK hc I hq;subst hP hw hK;obtain⟨u,hu,ru⟩:=rv.get hx;have fe:=hf e (by simp);have fi:=hf it (by simp)
  have Rc:i<its.length:=by
   rcases Nat.lt_or_ge i its.length with z|z
   ·exact z
   ·rw[List.getElem?_eq_none z]at hu;cases hu
  refine wpAny_pyNext_enum_itemD D he (t1 _ hi) Rc ne (by simp[ne,Ne.symm n1]) fun u' h' tk V6 ho Sy ht hsz hk=>?_;have:u'=u:=by rw[hu]at V6;cases V6;rfl
  subst this;refine⟨_,rfl,?_⟩;refine wpAny_letOwnedTupleGo_enum ho fun h2 he2 sb=>?_;have lt:e<s.heap.objs.size:=Heap.lt_size he;have fr:H s.heap.objs.size=none:=I.hok.fresh (acg _);have kk:∀b o,b≠e→b≠it→s.heap.get? b=some o→h2.get? b=some o:=fun b o b1 b2 q=>(sb.2 b b1).trans (hk b o b1 b2 q);have ht2:h2.get? s.heap.objs.size=some { cls:=.type "tuple",data:=.seq #[.int i tk,u'] }:=(sb.2 _ (Nat.ne_of_gt lt)).trans ht;have hok:bR X.prog X.w (upd H s.heap.objs.size (.tup [.int i,x])) h2 s.heap.objs.size (.tup [.int i,x]):=⟨by show 2≤sizeLine;decide,[.int i tk,u'],.cons ⟨tk,rfl⟩ (.cons ru .nil),⟨_,ht2,rfl,_,rfl⟩⟩
  refine⟨.ref s.heap.objs.size,upd H s.heap.objs.size (.tup [.int i,x]),I.Tp kk fe fi (acg _) hok,rfl,⟨_,x,fr,rfl,rfl,fun ys hy=>by rw[S.inj X pins σ H s _ _ rfl I hy hq];exact hx⟩,⟨⟨u',by simpa using he2⟩,S.keep _ _ _ (t2 _ _ Sy) fun o q=>(sb.2 it (Ne.symm ne)).trans q⟩,fun b hb=>?_⟩
  rw[ak (fun z=>by
   have lb:b<s.heap.objs.size:=by
    rcases List.mem_cons.mp hb with y|y
    ·rw[y];exact lt
    ·rw[List.mem_singleton.mp y];obtain⟨o,ho,_⟩:=S.obj _ _ hi;exact Heap.lt_size ho
   exact absurd z (Nat.ne_of_lt lb))]
  exact(hf b hb).1
 done:=by
  intro X hP hw hK hc i pins s σ H E I hf st hg;obtain⟨xs,hq,hx⟩:=hg;obtain⟨⟨old,he⟩,hi⟩:=st;obtain⟨its,St,rv,D,t1,t2⟩:=S.get X pins σ H s xs hP hw hK hc I hq;subst hP hw hK;have fe:=hf e (by simp);have fi:=hf it (by simp);have hl:=rv.length;have sz:its.length=i:=by omega
  subst sz;exact wpAny_pyNext_enum_endD D he (t1 _ hi) fun h' eb=>⟨rfl,I.Uk (t':=s.toks) (fun b o _ b2 q=>eb b o b2 q) fe fi⟩
 self:=fun A i s Q E st h=>by obtain⟨⟨old,he⟩,_⟩:=st;exact wpAny_pyIter_enum he h
end
section
variable{X:Cx}{elts:List Expr}{k:Nat}{pos p p1:Pos}
def Ku(K:W.Frag)(ta:TA):TI:=fun σ H R=>ta σ H fun vs H1=>∃a,vs= [.ref a]∧(∃xs,NP K H1 a xs)∧R (Ite fun H xs=>NP K H a xs) H1
def Kv(K:W.Frag)(ta:TA):TI:=fun σ H R=>ta σ H fun vs H1=>∃a,vs= [.ref a]∧(∃xs,M_ K H1 a xs)∧R (Ite fun H xs=>M_ K H a xs) H1
theorem Au{a:Expr}{ta:TA}(hg:Gl X "enumerate")(hm:X.mg "enumerate"=none)(ha:PA X [a] ta)(hs:starEach [a] X.env= [(false,eval a X.env)]:=by rfl):PI X (.Tuple elts k pos) (.Call (.Name "enumerate" p) [a] [] p1) (Ku X.K ta):=by
 intro pins s σ H R I h;refine Call_ (ig I hg hm (show bootBuiltins "enumerate"=some (.type "enumerate") by decide+kernel) (PyProof.Rows.callWith_type1 (J6 (ha p1 pins s σ H _ I h) ?_) hs rfl));rintro us s1 ⟨vs,H1,I1,r1,q1⟩;obtain⟨a,e,⟨xs,hq⟩,q⟩:=q1;subst e
 cases r1 with
 |cons r rr=>
  cases rr
  cases r
  obtain⟨its,rv,t,hz⟩:=I1.tuple hq;refine vZ (show s1.heap.IsTuple a its.toArray from t) ?_;have z:(s1.heap.push (tF a)).objs.size=s1.heap.objs.size+1:=Heap.size_push ..;have g:=Heap.get?_push_size (s1.heap.push (tF a)) (o:=uH s1.heap.objs.size) rfl;rw[z]at g;have kk:∀b o,s1.heap.get? b=some o→((s1.heap.push (tF a)).push (uH s1.heap.objs.size)).get? b=some o:=fun b o e=>Heap.get?_push_of_some _ (Heap.get?_push_of_some _ e);have la:a<s1.heap.objs.size:=by obtain⟨o,ho,_⟩:=t;exact Heap.lt_size ho
  refine wpAny_pyIter_enum (it:=s1.heap.objs.size) (i:=0) (old:=.none) g ?_;refine⟨s1.heap.objs.size+1,[s1.heap.objs.size+1,s1.heap.objs.size],_,_,H1,rfl,I1.kept (t':=s1.toks) kk,pP (Ct (a:=a) (Nat.ne_of_lt la)) (Nat.succ_ne_self _) (Nat.ne_of_lt (Nat.lt_succ_of_lt la)),⟨⟨_,g⟩,⟨_,Heap.get?_push_of_some _ (Heap.get?_push_size _ rfl),rfl,rfl⟩⟩,fun b hb=>?_,q⟩
  have S9:s1.heap.objs.size≤b:=by
   rcases List.mem_cons.mp hb with y|y
   ·rw[y];exact Nat.le_succ _
   ·rw[List.mem_singleton.mp y];exact acg _
  exact I1.R_ S9 (I1.hok.fresh S9)
theorem Av{a:Expr}{ta:TA}(hg:Gl X "enumerate")(hm:X.mg "enumerate"=none)(ha:PA X [a] ta)(hs:starEach [a] X.env= [(false,eval a X.env)]:=by rfl):PI X (.Tuple elts k pos) (.Call (.Name "enumerate" p) [a] [] p1) (Kv X.K ta):=by
 intro pins s σ H R I h;refine Call_ (ig I hg hm (show bootBuiltins "enumerate"=some (.type "enumerate") by decide+kernel) (PyProof.Rows.callWith_type1 (J6 (ha p1 pins s σ H _ I h) ?_) hs rfl));rintro us s1 ⟨vs,H1,I1,r1,q1⟩;obtain⟨a,e,⟨xs,hq⟩,q⟩:=q1;subst e
 cases r1 with
 |cons r rr=>
  cases rr
  cases r
  obtain⟨its,rv,t,hz⟩:=I1.list hq;have t:=t.isList;have la:a<s1.heap.objs.size:=by obtain⟨o,ho,_⟩:=t;exact Heap.lt_size ho
  refine call_enumerate_list t fun h2 hE hI hsz kk=>?_;refine wpAny_pyIter_enum hE ?_;refine⟨s1.heap.objs.size+1,[s1.heap.objs.size+1,s1.heap.objs.size],_,_,H1,rfl,I1.kept (t':=s1.toks) kk,pP (Cu (a:=a) (Nat.ne_of_lt la)) (Nat.succ_ne_self _) (Nat.ne_of_lt (Nat.lt_succ_of_lt la)),⟨⟨_,hE⟩,hI⟩,fun b hb=>?_,q⟩
  have S9:s1.heap.objs.size≤b:=by
   rcases List.mem_cons.mp hb with y|y
   ·rw[y];exact Nat.le_succ _
   ·rw[List.mem_singleton.mp y];exact acg _
  exact I1.R_ S9 (I1.hok.fresh S9)
end
end L2
namespace L3
open PySem PySem.Spec PyProof.Rows L2
noncomputable def Od:Nat→List PV→List PV
 |_,[]=>[]
 |n,x::r=>.tup [.int n,x]::Od (n+1) r
theorem nC:∀(xs:List PV)(n:Nat),(Od n xs).length=xs.length
 |[],_=>rfl
 |_::r,n=>by simp[Od,nC r]
theorem xE:∀(xs:List PV)(n i:Nat),(Od n xs)[i]? =xs[i]?.map fun x=>PV.tup [.int ((n+i:Nat):Int),x]
 |[],_,_=>by simp[Od]
 |x::r,n,0=>by simp[Od]
 |x::r,n,i+1=>by simp only[Od,List.getElem?_cons_succ,xE r];congr 2;funext y;congr 3;omega
section
variable{K:W.Frag}{T:Tab}{F H:Hp}{m:List Addr}
theorem uD{sq:Hp→List V→Prop}{xs:List PV}{vs:List V}(st:∀F1 H1,di F F1→di F1 H1→sq H1 vs)(r:ay K T F m xs vs):wj K T (Ite sq) (Od 0 xs) F m H:=by
 have at':∀{F1:Hp}{m1:List Addr}{h1:List PO}{H1:Hp},bp F m H F1 m1 H1→RelH K T F1 m1 h1 H1→sq H1 vs:=fun s R=>st _ _ s.fz R.same;refine⟨fun i F1 m1 h1 H1 s R hi=>?_,fun i F1 m1 h1 H1 v H2 s R hi y=>?_,fun F1 m1 h1 H1 s R=>⟨vs,at' s R,by rw[nC,r.length]⟩⟩
 ·rw[nC,r.length]at hi;exact⟨vs,vs[i],at' s R,List.getElem?_eq_getElem hi⟩
 ·obtain⟨p,y,hp,rfl,rfl,q⟩:=y;rw[nC]at hi;obtain⟨v',SJ,Va⟩:=r.get (List.getElem?_eq_getElem hi);have:v'=y:=by have z:=q vs (at' s R);rw[SJ]at z;cases z;rfl
  subst this;obtain⟨s2,R2⟩:=bp.lay (o:=.tup [.int i,v']) R hp;refine⟨_,_,.tup [.int i,xs[i]],s2,R2,?_,.tup (.inl (.inl aJ)) (.cons (.int i) (.cons (s2.rep (s.rep Va)) .nil))⟩;rw[xE,List.getElem?_eq_getElem hi];simp
end
def BH(ps:List PV)(h:List PO):Res (List PV):=match ps with
 |[.tup xs]=>.ok (Od 0 xs) h
 |[.lst xs]=>.ok (Od 0 xs) h
 |_=>.bad
def iK(f:Ax):Ax:=fun ρ h=>(f ρ h).bind BH
section
variable{X:Cx}{T:Tab}{Ew:XK}{a:Expr}{elts:List Expr}{f:Ax}{k:Nat}{pos p p1:Pos}
theorem qZ(hg:Gl X "enumerate")(hm:X.mg "enumerate"=none)(ha:RA X T Ew [a] f)(hs:starEach [a] X.env= [(false,eval a X.env)]:=by rfl):RI X T Ew (.Tuple elts k pos) (.Call (.Name "enumerate" p) [a] [] p1) (iK f):=by with_unfolding_all
 intro pins s σ H R I ⟨F,m,ρ,h,RR,w⟩
 by_cases ht:∃xs h1,f ρ h=.ok [.tup xs] h1
 ·obtain⟨xs,h1,e⟩:=ht;refine Au hg hm ha hs pins s σ H R I ⟨F,m,ρ,h,RR,?_⟩;unfold iK at w;rw[e]at w ⊢;intro F1 m1 H1 x s1 R1 r1;have w1:=aG.step s1 (show aG X.K T _ F m H R Ew (.ok (Od 0 xs) h1)from w)
  cases r1 with
  |cons r rr=>
   cases rr
   cases r with
   |tup sq rs=>exact⟨_,rfl,⟨_,R1.same.Qs sq⟩,aG.here w1 R1 fun H=>uD (fun F1 H1 a b=>b.Qs (a.Qs sq)) rs⟩
 ·refine Av hg hm ha hs pins s σ H R I ⟨F,m,ρ,h,RR,?_⟩;unfold iK at w
  cases e:f ρ h with
  |bad=>rw[e]at w;exact w
  |exc v h1=>rw[e]at w;exact w
  |ok ps h1=>
   rw[e]at w;intro F1 m1 H1 x s1 R1 r1;have w1:=aG.step s1 (show aG X.K T _ F m H R Ew (BH ps h1)from w);unfold BH at w1
   split at w1
   ·exact(ht ⟨_,_,e⟩).elim
   ·cases r1 with
    |cons r rr=>
     cases rr
     cases r with
     |lst sq rs=>have q:M_ X.K F1 _ _:=.inl (.inl sq);exact⟨_,rfl,⟨_,R1.same.seq q⟩,aG.here w1 R1 fun H=>uD (fun F1 H1 a b=>b.seq (a.seq q)) rs⟩
   ·exact w1.elim
end
end L3
namespace L2
open PySem PySem.Spec PyProof.Rows
end L2
namespace L3
open PySem PySem.Spec PyProof.Rows L2
end L3
namespace HT
open PySem PySem.Spec PyProof.Rows
section
variable{prog:Program}{w:World}{A:Around}{E:Value→Shared→Prop}{s:Shared}
theorem PN{t sl:Addr}{items:Array Value}{vl vu:Value}{lo hi:Option Int}{Q:Value→Shared→Prop}(ht:IsTup s.heap t items)(hs:s.heap.IsSliceOf sl vl vu .none)(pl:IsPart vl lo)(pu:IsPart vu hi)
  (hw:J7 items.size 0 lo=0∧J7 items.size items.size hi=items.size) (h:Q (.ref t) s):wpAny (model prog w) A (getItem (.ref t) (.ref sl)) Q E s:=by
 obtain⟨os,Uv,XM,W3⟩:=id hs;have Zj:s.TypeIs (.ref sl) "slice":=⟨os,Uv,XM⟩
 unfold getItem
 try with_reducible refine wpAny_holding ?_
 first|refine wpAny_bind (wpAny_pure ?_)|skip
 refine wpAny_bind (wpAny_sequenceKey ht.typeIs (by decide) ?_)
 refine wpAny_bind (wpAny_callSpecial?_slot (name:=Str.ofString "__getitem__") ht.typeIs PyProof.Rows.slot_tuple_getitem
  (wpAny_call_entry PyProof.Rows.slot_tuple_getitem ht.typeIs entry_tuple_getitem ?_ (args_tuple_getitem _ _)))
 show wpAny _ _ (Builtin.Tuple.tupleItemsOf (.ref t) >>= _) _ _ s;refine wpAny_bind (tupleItemsOf_ ht ?_);refine wpAny_bind (wpAny_typeOf Zj ?_);rw[if_pos (by decide)];refine wpAny_bind (ir hs pl pu ?_)
 have yes:(((J7 items.size 0 lo:Nat):Int)==0&&(1:Int)==1&&(J7 items.size items.size hi - J7 items.size 0 lo)==items.size)=true:=by rw[hw.1,hw.2];simp
 show wpAny _ _ (if(((J7 items.size 0 lo:Nat):Int)==0&&(1:Int)==1&&(J7 items.size items.size hi - J7 items.size 0 lo)==items.size)=true then _ else _) _ _ s;rw[if_pos yes];obtain⟨⟨ct,dt,da,SQ⟩,hot,Uz,n,hdt⟩:=id ht
 cases(show ct=Value.type "tuple" from Uz)
 wp_walk using AutoSeq1.wpAny_loadPart' hot
 exact⟨_,rfl,wpAny_pure h⟩
end
end HT
namespace L2
open PySem PySem.Spec PyProof.Rows
def HC(K:W.Frag):V→Option Int→Option Int→Hp→VK→Prop:=fun x lo hi H Q=>∃a xs,x=.ref a∧NP K H a xs∧(HT.J7 xs.length 0 lo=0∧HT.J7 xs.length xs.length hi=xs.length)∧Q (.ref a) H
theorem Fp{X:Cx}:Tj X (HC X.K):=by
 intro pins s σ H x v vl vu lo hi sl Q I rx hs pl pu h;obtain⟨a,xs,rfl,hx,hw,q⟩:=h
 cases rx
 obtain⟨its,r,ht,hz⟩:=I.tuple hx;have Mi:its.toArray.size=xs.length:=by rw[List.size_toArray];exact r.length.symm
 exact⟨"tuple",_,PyProof.Rows.slot_tuple_getitem.lookup,ht.typeIs,HT.PN ht hs pl pu (by rw[Mi];exact hw) ⟨.ref a,H,I,rfl,q⟩⟩
end L2
namespace L3
open PySem PySem.Spec PyProof.Rows L2
def cQ(p:PV)(lo hi:Option Int)(h:List PO):Res PV:=match p with
 |.tup xs=>if HT.J7 xs.length 0 lo=0∧HT.J7 xs.length xs.length hi=xs.length then .ok (.tup xs) h else .ok (.tup (cut xs lo hi)) h
 |p=>Xr p lo hi h
def cD(a:Ex)(lo hi:Ox):Ex:=fun ρ h=>(a ρ h).bind fun p h1=>(lo ρ h1).bind fun l h2=>(hi ρ h2).bind fun u h3=>cQ p l u h3
section
variable{X:Cx}{T:Tab}{Ew:XK}{a:Expr}{fa:Ex}{pos:Pos}
theorem Ak{K:W.Frag}{F H:Hp}{m:List Addr}{h:List PO}{Q:VK}{p:PV}{x:V}{lo hi:Option Int}(R:RelH K T F m h H)(rp:aH K T F m p x)(w:aG K T (aH K T) F m H Q Ew (cQ p lo hi h)):HG K x lo hi H Q∨HC K x lo hi H Q:=by
 unfold cQ at w
 split at w
 ·rename_i xs
  split at w
  ·rename_i hz;obtain⟨a,vs,rfl,ea,ra⟩:=fF R rp;refine .inr ⟨a,vs,rfl,ea,by rw[← ra.length];exact hz,?_⟩;exact aG.here w R rp
  ·rename_i hz;refine .inl (wZ (Ew:=Ew) R rp ?_);unfold Xr;dsimp only;rw[if_neg hz];exact w
 ·exact .inl (wZ R rp w)
theorem yh{lo hi:Option Expr}{fl fu:Ox}{p2:Pos}(ha:RE X T Ew a fa)(hl:RO X T Ew lo fl)(hh:RO X T Ew hi fu):RE X T Ew (.Subscript a (.Slice lo hi none p2) pos) (cD fa fl fu):=by with_unfolding_all
 refine PE.imp (Ay (L2.Tj.or (L2.Tj.or Fo (L2.Tj.or Fm Cw)) Fp) ha hl hh) ?_;rintro σ H Q ⟨F,m,ρ,h,R,p⟩;refine⟨F,m,ρ,h,R,(aG.bind p).mono ?_⟩;rintro x H1 ⟨F1,m1,h1,p1,s1,R1,r1,w1⟩;refine⟨F1,m1,ρ,h1,R.of s1 R1,(aG.bind w1).mono ?_⟩;rintro l H2 ⟨F2,m2,h2,l2,s2,R2,e2,w2⟩;subst e2;refine⟨F2,m2,ρ,h2,(R.of s1 R1).of s2 R2,(aG.bind w2).mono ?_⟩;rintro u H3 ⟨F3,m3,h3,u3,s3,R3,e3,w3⟩;subst e3;exact Ak R3 (s3.rep (s2.rep r1)) w3
end
noncomputable def Qa(K:W.Frag)(T:Tab)(np:Nat)(fn:List PV→Res PV):Sp:=fun vs H Q _=>∃F ps,ps.length=np∧di F H∧ay K T F [] ps vs∧aG K T (aH K T) F [] H Q (fun _ _ _=>False) (fn ps)
theorem qP{K:W.Frag}{T:Tab}{np:Nat}{fn:List PV→Res PV}{vs:List V}{H:Hp}{Q:VK}{E:XK}(h:Qa K T np fn vs H Q E):vs.length=np:=by obtain⟨F,ps,e,_,r,_⟩:=h;rw[← r.length];exact e
end L3
namespace L2
open PySem PySem.Spec PyProof.Rows
end L2
namespace L3
open PySem PySem.Spec PyProof.Rows L2
end L3
namespace L2
open PySem PySem.Spec PyProof.Rows
end L2
namespace L3
open PySem PySem.Spec PyProof.Rows L2
end L3
namespace L2
open PySem PySem.Spec PyProof.Rows
end L2
namespace L3
open PySem PySem.Spec PyProof.Rows L2
end L3
namespace L2
open PySem PySem.Spec PyProof.Rows
end L2
namespace L3
open PySem PySem.Spec PyProof.Rows L2
section
variable{X:Cx}{T:Tab}{Ew:XK}{e:Expr}{es:List Expr}{f:Ax}{pos p0:Pos}
def EW(K:W.Frag)(a:Addr)(ps:List PV):Prop:=∃(o:Obj)(its:Array Value)(n:Nat)(vs:List V),K.lookup a=some o∧o.cls=.type "tuple"∧o.data=.seq its n∧its.size≤sizeLine∧bh vs its.toList∧∀(T:Tab)(F:Hp)(m:List Addr),ay K T F m ps vs
theorem zU{x:Str}{a:Addr}{ps:List PV}(hg:Gl X x)(hm:X.mg x=some (.ref a))(g:EW X.K a ps)(hd:nD0 x:=by decide):RE X T Ew (.Name x pos) (cK (.tup ps)):=by
 obtain⟨o,its,n,vs,h1,h2,h3,h4,h5,h6⟩:=g
 with_unfolding_all exact(fT (rB (v:=.ref a) hg hm rfl hd) fun F m=>.tup (.inr ⟨o,its,n,h1,h2,h3,h4,h5⟩) (h6 T F m))
end
end L3
namespace L2
open PySem PySem.Spec PyProof.Rows
theorem xW:fillsNumberSlot (.type "tuple") "mul"=pure false:=by kernel_rfl
theorem tE:seqRepeat? (.type "tuple")=pure (some (.builtin "tuple.__mul__")):=by kernel_rfl
theorem vq(a:Int)(t:Tok)(l:Addr)(its:Array Value)(n:Nat)(dd:Option Addr)(sl:Array (Option Value)):
  Meets (Builtin.«int.__rmul__» ⟨[.int a t,.ref l],[]⟩) (fun _ R s=>s.heap.get? l=some { cls:=.type "tuple",dict:=dd,data:=.seq its n,slots:=sl }∧R (.ok (.ret Value.notImplemented)) s):=
 .of_wp fun prog w A R s h=>by
  obtain⟨hp,g,d,tk,os⟩:=s;obtain⟨hl,h⟩:=h
  wp_walk
  exact⟨_,rfl,h⟩
theorem xV(l:Addr)(its:List Value)(n:Nat)(dd:Option Addr)(sl:Array (Option Value))(k:Int)(t:Tok)(h1: -(2 ^ 63)≤k)(h2:k<2 ^ 63)(hz:its.length * k.toNat≤sizeLine):
  Meets (Builtin.«tuple.__mul__» ⟨[.ref l,.int k t],[]⟩) (fun _ R s=>s.heap.get? l=some { cls:=.type "tuple",dict:=dd,data:=.seq its.toArray n,slots:=sl }∧
   ((its= []∨k=1)→R (.ok (.ret (.ref l))) s)∧R (.ok (.ret (.ref s.heap.objs.size))) { s with heap:=s.heap.push { cls:=.type "tuple",data:=.seq (List.replicate k.toNat its).flatten.toArray } }):=
 .of_wp fun prog w A R s h=>by
  obtain⟨hp,g,d,tk,os⟩:=s;obtain⟨hl,q1,q2⟩:=h;have f1:=AutoSeq1.idx_int;have f2:=AutoSeq1.sub_tuple_tuple;have b1:¬ ((decide (k< -(2 ^ 63))||decide (k≥2 ^ 63))=true):=by simp;omega
  unfold Builtin.«tuple.__mul__»
  wp_walk using AutoSeq1.wpAny_loadPart' hl
  rw[if_neg b1]
  wp_walk using AutoSeq1.wpAny_loadPart' hl
  have em:its.toArray.isEmpty=its.isEmpty:=by cases its<;>rfl
  have fr:∀xs:Array Value,xs.size≤sizeLine→xs=(List.replicate k.toNat its).flatten.toArray→wpAny (model prog w) A.in1 (Builtin.Tuple.tupleExact xs >>= fun v=>ret v) (fun fin s'=>∃v,fin=Fin.done (Flow.ret v)∧R (Except.ok (Flow.ret v)) s') (fun e s'=>R (Except.error e) s') ⟨hp,g,d,tk,os⟩:=fun xs hx e=>by unfold Builtin.Tuple.tupleExact;subst e;exact wpAny_bind (wpAny_newObj_type (wpAny_pure ⟨_,rfl,q2⟩) hx)
  by_cases c:(its.toArray.isEmpty||k==1)=true
  ·rw[if_pos c]
   wp_walk using AutoSeq1.wpAny_loadPart' hl
   refine⟨_,rfl,q1 ?_⟩;rw[Bool.or_eq_true,em,List.isEmpty_iff,beq_iff_eq]at c;exact c
  ·rw[if_neg c];rw[Bool.or_eq_true,not_or,em,List.isEmpty_iff]at c
   by_cases c2:(decide (k≤0)||its.toArray.isEmpty)=true
   ·rw[if_pos c2];rw[Bool.or_eq_true,em,List.isEmpty_iff]at c2
    have k0:k.toNat=0:=by
     rcases c2 with z|z
     ·have:=of_decide_eq_true z;omega
     ·exact absurd z c.1
    exact fr #[] (Nat.zero_le _) (by rw[k0];rfl)
   ·rw[if_neg c2]
    have e2:(its.toArray.size:Int) * k=((its.length * k.toNat:Nat):Int):=by
     have:((k.toNat:Nat):Int)=k:=Int.toNat_of_nonneg (by simp only[Bool.or_eq_true,not_or,decide_eq_true_eq]at c2;omega)
     rw[List.size_toArray];push_cast;rw[this]
    have sl8:(sizeLine:Nat)≤(2 ^ 63 - 1) / 8:=by decide
    rw[if_neg (by rw[e2];intro z;have:(its.length * k.toNat:Nat)≤(2 ^ 63 - 1) / 8:=Nat.le_trans hz sl8;omega)];rw[if_neg (by rw[e2];unfold Builtin.Tuple.tupleTooMany;intro z;have:=of_decide_eq_true z;have h3:((its.length * k.toNat:Nat):Int)≤(sizeLine:Nat):=Int.ofNat_le.mpr hz;omega)]
    have hf:List.foldl (fun x1 x2=>x1++x2) #[] (List.replicate k.toNat its.toArray)=(List.replicate k.toNat its).flatten.toArray:=by have:=mE its k.toNat [];rw[List.nil_append]at this;exact this
    refine fr _ ?_ hf;rw[hf,List.size_toArray,rM,Nat.mul_comm];exact hz
section
variable{X:Cx}
def En(K:W.Frag):R2:=fun x y H Q=>∃l k xs,x=.ref l∧y=.int k∧NP K H l xs∧ -(2 ^ 63)≤k∧k<2 ^ 63∧xs.length * k.toNat≤sizeLine∧
 ((xs= []∨k=1)→Q (.ref l) H)∧∀p,H p=none→Q (.ref p) (upd H p (.tup (List.replicate k.toNat xs).flatten))
theorem Dh:Nq X (binaryOp .Mult) (En X.K):=by
 intro pins s σ H x y v u Q I rx ry h;obtain⟨l,k,xs,rfl,rfl,hq,h1,h2,hz,q1,q2⟩:=h
 cases rx
 obtain⟨t,rfl⟩:=ry;obtain⟨its,r,p,_⟩:=I.tuple hq;obtain⟨o,ho,hc,n,hd⟩:=p;obtain⟨oc,od,Wu,Qv⟩:=o;dsimp only at hc hd;subst hc hd;have ln:=r.length
 refine wpAny_binaryOp_repeat_ref (T:="tuple") (U:="int") (by decide) ⟨_,ho,rfl⟩ (fun s'=>typeIs_int s' k t) xW F.fills_int_mul F.slot_int_rmul tE F.slot_int_index.lookup
  (call_meets F.slot_int_rmul (typeIs_int s k t) F.entry_int_rmul (F.args_int_rmul_2 _ _) (vq k t l its.toArray n od Qv)
   ⟨ho,rfl,⟨_,ho,rfl⟩,call_meets F.slot_tuple_mul ⟨_,ho,rfl⟩ F.entry_tuple_mul (F.args_tuple_mul_2 _ _) (xV l its n od Qv k t h1 h2 (by rw[← ln];exact hz)) ⟨ho,fun c=>?_,?_⟩⟩)
 ·exact⟨.ref l,H,I,rfl,q1 (c.imp (fun z=>r.Pz.mp z) id)⟩
 ·refine⟨.ref s.heap.objs.size,_,I.laid (t':=s.toks) (o:=.tup (List.replicate k.toNat xs).flatten) (fun b ob q=>Heap.get?_push_of_some _ q) (acg _) ?_,rfl,q2 _ (I.hok.fresh (acg _))⟩;exact⟨by rw[rM,Nat.mul_comm];exact hz,_,r.rep k.toNat,IsTup.new _ _⟩
end
section
variable{P:Program}{w:World}{A:Around}{E:Value→Shared→Prop}{s:Shared}
theorem yc{b:Bool}{l:Addr}{its:Array Value}{zs:List Str}(hh:A.handled=none)(hl:IsTup s.heap l its)(r:bh (zs.map V.str) its.toList)(few:its.size+1<scanBound):
  codeAny (model P w) A (.call (.builtin "set.__init__") ⟨[.ref s.heap.objs.size,.ref l],[]⟩)
   (wants (fun u s2=>u=.none∧∃h' tk,s2= { s with heap:=h',toks:=tk }∧sS P w s s.heap.objs.size zs its.size h') E) { s with heap:=s.heap.push (iA b) }:=by
 have O3:(s.heap.push (iA b)).get? s.heap.objs.size=some (iA b):=Heap.get?_push_size _ rfl;refine codeAny_call_builtin F.called_set.init.plain F.entry_set_init (check_set_init_1 ⟨_,O3,rfl⟩ ?_);obtain⟨⟨oc,od,Wu,Qv⟩,q,c1,c,c2⟩:=hl
 cases c1
 cases c2
 have q':(s.heap.push (iA b)).get? l=some { cls:=.type "tuple",dict:=od,data:=.seq its c,slots:=Qv }:=Heap.get?_push_of_some _ q;have n1:=F.sub_tuple_set;have n2:=F.sub_tuple_frozenset;have n3:(Value.type "tuple"==Value.type "dict")=false:=by decide
 have ll:l<s.heap.objs.size:=Heap.lt_size q;have WL:(s.heap.push (iA b)).IsTuple l its:=⟨_,q',rfl,c,rfl⟩
 unfold Builtin.«set.__init__» noKeywords Builtin.Frozenset.updateFrom;generalize gi:pyIter=iter
 wp_walk
 subst gi;apply wpAny_pyIter_tuple WL;refine wpAny_bind<|wpAny_runValue ?_
 have sz:(s.heap.push (iA b)).objs.size=s.heap.objs.size+1:=Heap.size_push _ _
 have ne1:l≠(s.heap.push (iA b)).objs.size:=fun z=>by rw[sz]at z;exact Nat.lt_irrefl _ (Nat.lt_trans (z▸ll) (Nat.lt_succ_self _))
 have out:s.heap.objs.size∉ [(s.heap.push (iA b)).objs.size,l]:=by
  intro z;rcases List.mem_cons.mp z with z|z
  ·rw[sz]at z;exact Nat.ne_of_lt (Nat.lt_succ_self _) z
  ·exact Nat.ne_of_gt ll (List.mem_singleton.mp z)
 have W:=(Walks.tuple (prog:=P) (w:=w) (A:=A.in1.in1) (by simp[hh]) _ l ne1 its).toS;refine tO W s.heap.objs.size out (fun i=>zs.getD i Str.empty) (fun i v z=>wF r i v (by rw[Array.getElem?_toList];exact z)) few its.size 0 _ (Nat.zero_add _) ?_ ?_ ?_
 ·exact⟨⟨_,Heap.get?_push_size _ rfl,rfl,rfl⟩,WL.push _⟩
 ·exact SetOf_congr ((setObjOf_fresh (knd:=strKind P w) b).setOf (Heap.get?_push_of_some _ O3) (by decide)) (fun _=>rfl) rfl
 ·rintro⟨h',g',d',t',o'⟩ mv so
  obtain rfl:g'=s.gens:=mv.gens;obtain rfl:d'=s.drawn:=mv.drawn;obtain rfl:o'=s.os:=mv.os;apply wpAny_pure;refine wpAny_pure ⟨rfl,h',t',rfl,so,fun x o hx e=>mv.heap x o (fun z=>?_) (Heap.get?_push_of_some _ (Heap.get?_push_of_some _ e))⟩;rcases List.mem_cons.mp z with z|z
  ·exact Nat.ne_of_lt hx z
  ·have z:=List.mem_singleton.mp z;rw[sz]at z;exact Nat.ne_of_lt (Nat.lt_succ_of_lt hx) z
theorem pA{l:Addr}{its:Array Value}{zs:List Str}{Q:Value→Shared→Prop}(hh:A.handled=none)(hl:IsTup s.heap l its)(r:bh (zs.map V.str) its.toList)(few:its.size+1<scanBound)
  (k:∀(h':Heap)(tk:Nat),sS P w s s.heap.objs.size zs its.size h'→Q (.ref s.heap.objs.size) { s with heap:=h',toks:=tk }):wpAny (model P w) A (call (.type "set") [.ref l]) Q E s:=by
 have C:=F.called_set;obtain⟨_,_,c1⟩:=C.mro;have c2:=C.made;have c3:=C.sub;have c4:=C.notType;have c5:=C.canCreate;have c6:=F.typeCall_set_1 (.ref l);have c7:=C.init.lookup;have c8:=C.init.bind (.ref s.heap.objs.size);apply wpAny_call;apply codeAny_of_tree;show wpAny _ _ (callAny (.type "set") ⟨[.ref l],[]⟩) _ _ _;apply wpAny_pure;refine And.intro (Code.quiet_builtin _ (by decide+kernel))<|codeAny_builtin F.entry_type_call ?_
 rw[Around.under_plain (weight_type_call_type "set" [.ref l] []) rfl]
 repeat any_goals first|assumption|wp_step
 refine codeAny_mono (R:=wants (fun o s1=>∃b:Bool,o=.ref s.heap.objs.size∧s1= { s with heap:=s.heap.push (iA b) }) E) (code_set_new_1 _ fun b=>⟨b,rfl,rfl⟩) fun res s1 z=>?_;rcases res with e|(o|_|_|_)<;>first|exact z|exact z.elim|skip
 obtain⟨b,rfl,rfl⟩:=z;have isS:Shared.TypeIs { s with heap:=s.heap.push (iA b) } (.ref s.heap.objs.size) "set":=⟨_,Heap.get?_push_size _ rfl,rfl⟩
 repeat any_goals first|assumption|wp_step
 refine codeAny_mono (yc (E:=E) (by simp[hh]) hl r few) fun Vo s2 z2=>?_;rcases Vo with e|(o|_|_|_)<;>first|exact z2|exact z2.elim|skip
 obtain⟨rfl,h',tk,rfl,fin⟩:=z2
 repeat any_goals first|assumption|wp_step
 exact k h' tk fin
end
section
variable{X:Cx}{e:Expr}{te:TE}{p1 p2 pos pos2:Pos}
theorem vC(hc:X.calm=true)(g1:Gl X "len")(m1:X.mg "len"=none)(g2:Gl X "set")(m2:X.mg "set"=none)(he:PE X e te)
  (hs:starEach [e] X.env=(false,eval e X.env)::starEach [] X.env:=by rfl) (Ua:starEach [.Call (.Name "set" p2) [e] [] pos2] X.env=(false,eval (.Call (.Name "set" p2) [e] [] pos2) X.env)::starEach [] X.env:=by rfl)
  (hp:(backTo pos (starEach [] X.env)).any (·.1)=false:=by rfl) (Ub:(backTo pos2 (starEach [] X.env)).any (·.1)=false:=by rfl):
  PE X (.Call (.Name "len" p1) [.Call (.Name "set" p2) [e] [] pos2] [] pos) (fun σ H Q=>te σ H fun x H1=>∃(a:Addr)(zs:List Str),x=.ref a∧NP X.K H1 a (zs.map V.str)∧zs.length+1<scanBound∧Q (.int ((dH (fun i=>zs.getD i Str.empty) zs.length).length:Nat)) H1):=by
 intro pins s σ H Q I h;refine wpAny_Call_Name_kw (ig I g1 m1 PySem.boot_len ?_ (by decide) (by decide));refine PyProof.Rows.callWith_builtin1 ?_ Ua hp;rw[Ua];show wpAny _ _ (spliced ((false,eval (.Call (.Name "set" p2) [e] [] pos2) X.env)::backTo pos (starEach [] X.env))) _ _ s;refine Calls.spliced_cons ?_;have hv:bootBuiltins "set"=some (.type "set"):=by decide+kernel
 refine wpAny_Call_Name_kw (ig I g2 m2 hv ?_ (by decide) (by decide));refine callWith_type1 ?_ hs Ub;have ha:=rC he vD hs
 refine J6 (ha pos2 pins s σ H (fun vs H1=>match vs with
  |[x]=>∃(a:Addr)(zs:List Str),x=.ref a∧NP X.K H1 a (zs.map V.str)∧zs.length+1<scanBound∧Q (.int ((dH (fun i=>zs.getD i Str.empty) zs.length).length:Nat)) H1
  |_=>False) I h) fun us s1 ⟨vs,H1,I1,rv,z⟩=>?_
 dsimp only at z
 split at z
 rotate_left
 ·exact z.elim
 rename_i x;obtain⟨a,zs,e1,sq,few,q⟩:=z;subst e1;obtain⟨u,rfl,ru⟩:=rv.one
 cases ru
 obtain⟨its,ri,pl,hz⟩:=I1.tuple sq;have ln:its.length=zs.length:=by rw[← ri.length,List.length_map]
 refine pA (I1.ok.hd hc) pl (by simpa using ri) (by simpa[ln]using few) fun h' tk fin=>?_;obtain⟨so,kp⟩:=fin;have I2:Inv X pins σ H1 { s1 with heap:=h',toks:=tk }:=I1.kept fun b o z=>kp b o (Heap.lt_size z) z;refine Calls.spliced_nil ?_;obtain⟨o,go,oo⟩:=so.objOf;obtain⟨o1,es,ep,t,o2,_,_,o3,o4⟩:=oo;have lz:=mC (fun i=>zs.getD i Str.empty) its.toArray.size;have sz:its.toArray.size=zs.length:=by simp[ln]
 have sb:scanBound<2 ^ 63:=by decide
 refine call_len_set go o1 o2 o4 (by omega) ?_;refine⟨.int _,H1,I2.tok _,⟨_,rfl⟩,?_⟩;rw[o3,sz];exact q
end
noncomputable def Ut(z:Str):Value→Bool
 |.str y _=>y==z
 |_=>false
theorem nI:∀{zs:List Str}{us:List Value},bh (zs.map V.str) us→∀v∈us,∃y t,v=.str y t
 |[],_,.nil,v,h=>by simp at h
 |z::r,_,.cons q t,v,h=>by
  rcases List.mem_cons.mp h with e|e
  ·obtain⟨k,rfl⟩:=q;exact⟨z,k,e⟩
  ·exact nI t v e
theorem sY(z:Str):∀{zs:List Str}{us:List Value},bh (zs.map V.str) us→us.map (Ut z)=zs.map (· ==z)
 |[],_,.nil=>rfl
 |y::r,_,.cons q t=>by obtain⟨k,rfl⟩:=q;show(y==z)::_=_;rw[sY z t];rfl
section
variable{X:Cx}
def wR(K:W.Frag):V→List V→Hp→VK→Prop:=fun x xs H Q=>∃(a:Addr)(zs:List Str)(z:Str),x=.ref a∧M_ K H a (zs.map V.str)∧xs= [.str z]∧zs.length≤sizeLine∧zs.idxOf z<zs.length∧Q (.int (zs.idxOf z:Nat)) H
theorem yF:Xi X "list.index" (wR X.K):=by
 intro pins s σ H x xs v us Q I rx rv h;obtain⟨a,zs,z,rfl,sq,rfl,hz,hi,q⟩:=h
 cases rx
 obtain⟨u,rfl,ru⟩:=rv.one;obtain⟨tz,rfl⟩:=ru;obtain⟨its,r,pl,_⟩:=I.list sq;obtain⟨⟨cls,dd,data,sl⟩,ho,hc,n,hd⟩:=pl.isList;simp only at hc hd;subst hc hd;have ln:its.length=zs.length:=by rw[← r.length,List.length_map]
 have mp:=sY z r
 have at':∀m (h1:m<its.length) (h2:m<zs.length),Ut z its[m]=(zs[m]==z):=fun m h1 h2=>by have:=congrArg (·[m]?) mp;simpa[List.getElem?_map,h1,h2]using this
 have hj:zs.idxOf z<its.toArray.size:=by simpa[ln]using hi
 have hsm:((zs.idxOf z:Nat):Int)<2 ^ 63 - 1:=by rw[sizeLine_eq]at hz;omega
 have hit:Ut z its.toArray[zs.idxOf z]=true:=by have:=at' (zs.idxOf z) (by omega) hi;simp only[List.getElem_toArray];rw[this];simp
 have Y4:∀m (hm:m<its.toArray.size),m<zs.idxOf z→Ut z its.toArray[m]=false:=by
  intro m hm Rc;have h1:m<its.length:=by simpa using hm
  have:=at' m h1 (by omega);simp only[List.getElem_toArray];rw[this];exact List.not_of_lt_findIdx (p:=(· ==z)) (xs:=zs) (i:=m) Rc
 refine call_meets PySem.F.slot_list_index ⟨_,ho,rfl⟩ PySem.F.entry_list_index (PySem.F.args_list_index_2 _ _) (SeqAt.list_indexAt a _ n dd sl (.str z tz) (Ut z) (zs.idxOf z) hj hsm hit Y4) ⟨ho,fun y hy=>?_,?_⟩
 ·obtain⟨w,t,rfl⟩:=nI r y (by simpa using hy);exact SeqAt.EqAt.str_str w t z tz
 ·exact⟨.int (zs.idxOf z:Nat),H,I.tok _,⟨_,rfl⟩,q⟩
end
end L2
namespace L3
open PySem PySem.Spec PyProof.Rows L2
section
variable{X:Cx}{T:Tab}{Ew:XK}{a b e:Expr}{fa fb f:Ex}{pos p0 p1 p2 pos2:Pos}
def km(p q:PV)(h:List PO):Res PV:=match p,q with
 |.tup xs,.int k=>if QM 9223372036854775808 k=true∧xs.length * k.toNat≤sizeLine then .ok (.tup (mS xs k)) h else .bad
 |p,q=>hR p q h
theorem zQ{α:Type}(xs:List α)(k:Int)(h:xs= []∨k=1):mS xs k=xs:=by
 rcases h with rfl|rfl
 ·simp[mS]
 ·simp[mS]
theorem tV{K:W.Frag}{F:Hp}{m:List Addr}{xs:List PV}{vs:List V}(r:ay K T F m xs vs):∀n:Nat,ay K T F m (List.replicate n xs).flatten (List.replicate n vs).flatten
 |0=>.nil
 |n+1=>by rw[List.replicate_succ,List.replicate_succ,List.flatten_cons,List.flatten_cons];exact r.append (tV r n)
theorem yl{K:W.Frag}:eV K T (fun x y H Q=>En K x y H Q∨zZ x y H Q) km:=by
 intro F m h H x y p q Q Ew R rp rq w;unfold km at w
 split at w
 ·rename_i xs k
  split at w
  ·rename_i hz
   cases rq
   cases rp with
   |tup ef rr=>
    have hk:=cT.mp hz.1;refine .inl ⟨_,k,_,rfl,rfl,R.same.Qs ef,by omega,by omega,by rw[← rr.length];exact hz.2,fun c=>?_,fun pp hp=>?_⟩
    ·have e1:mS xs k=xs:=zQ xs k (c.imp (fun z=>by have:=rr.length;rw[z]at this;exact List.eq_nil_of_length_eq_zero (by simpa using this)) id);rw[e1]at w;exact aV w R (.tup ef rr)
    ·obtain⟨s2,R2⟩:=bp.lay (o:=.tup (List.replicate k.toNat _).flatten) R hp;exact w _ m _ _ s2 R2 (.tup (.inl (.inl aJ)) (s2.reps (tV rr k.toNat)))
  ·exact w.elim
 ·exact .inr (uc F m h H x y _ _ Q Ew R rp rq w)
theorem CH(ha:RE X T Ew a fa)(hb:RE X T Ew b fb):RE X T Ew (.BinOp a .Mult b pos) (c2 km fa fb):=by with_unfolding_all exact(
  oa (Nq.or Dh xl) yl ha hb)
def GK(f g:Ex):Ex:=fun ρ h=>(f ρ h).bind fun p h1=>match kA h1 p with
 |some true=>.ok p h1
 |some false=>g ρ h1
 |none=>.bad
theorem FD{rest:List Expr}(ha:RE X T Ew a fa)(hb:RE X T Ew (.BoolOp .Or (b::rest) pos) fb):RE X T Ew (.BoolOp .Or (a::b::rest) pos) (GK fa fb):=by with_unfolding_all
 intro pins s σ H Q I ⟨F,m,ρ,h,R,p⟩
 refine BoolOp_or (J6 ((show PE X a (wE X T Ew fa)from ha) pins s σ H (fun x H1=>∃F1 m1 h1 p1,bp F m H F1 m1 H1∧RelH X.K T F1 m1 h1 H1∧aH X.K T F1 m1 p1 x∧aG X.K T (aH X.K T) F1 m1 H1 Q Ew (match kA h1 p1 with
  |some true=>.ok p1 h1
  |some false=>fb ρ h1
  |none=>.bad)) I ⟨F,m,ρ,h,R,aG.bind p⟩) fun v s1 ⟨x,H1,I1,r1,F1,m1,h1,p1,st,R1,rp,w⟩=>?_)
 cases e:kA h1 p1 with
 |none=>rw[e]at w;exact w.elim
 |some k=>
  rw[e]at w;refine wpAny_mono (zt pins s1 σ H1 x v (fun c H2=>c=k∧H2=H1) I1 r1 ⟨k,tG R1 rp e,rfl,rfl⟩) (fun c s2 z=>?_) fun _ _ z=>z;obtain⟨H2,I2,rfl,rfl⟩:=z
  cases c with
  |true=>exact⟨x,H2,I2,r1,aG.here w R1 rp⟩
  |false=>exact(show PE X (.BoolOp .Or (b::rest) pos) (wE X T Ew fb)from hb) pins s2 σ H2 Q I2 ⟨F1,m1,ρ,h1,R.of st R1,w⟩
def nz(p:PV)(ps:List PV)(h:List PO):Res PV:=match ps with
 |[.str z]=>match(Ro h p).bind dv with
  |some ls=>if ls.length≤sizeLine∧ls.idxOf z<ls.length then .ok (.int (ls.idxOf z:Nat)) h else .bad
  |none=>.bad
 |_=>.bad
theorem Br(z:List Nat):∀ls:List (List Nat),(ls.map S).idxOf (S z)=ls.idxOf z
 |[]=>rfl
 |l::r=>by
  rw[List.map_cons,List.idxOf_cons,List.idxOf_cons,Br z r]
  by_cases hl:l=z
  ·subst hl;simp
  ·have:S l≠S z:=fun q=>hl (xR q);rw[beq_eq_false_iff_ne.mpr hl,beq_eq_false_iff_ne.mpr this]
theorem ue{K:W.Frag}{T:Tab}:uW K T (wR K) nz:=by
 intro F m h H x xs p ps Q Ew R rp rs w;unfold nz at w
 split at w
 ·rename_i z;obtain⟨y,rfl,ry⟩:=rs.one
  cases ry
  split at w
  ·rename_i ls e
   split at w
   ·rename_i hz;obtain⟨zs,e1,e2⟩:=Option.bind_eq_some_iff.mp e;obtain⟨a,vs,rfl,sq,rr⟩:=fL R rp e1;rw[gz e2]at rr;have ev:=lu rr;subst ev;refine⟨a,ls.map S,S z,rfl,sq,rfl,by rw[List.length_map];exact hz.1,by rw[Br,List.length_map];exact hz.2,?_⟩;rw[Br];exact aV w R (.int _)
   ·exact w.elim
  ·exact w.elim
 ·exact w.elim
def bZ(p:PV)(h:List PO):Res PV:=match p with
 |.tup xs=>match dv xs with
  |some ls=>if ls.length+1<scanBound then .ok (.int (kE ls:Nat)) h else .bad
  |none=>.bad
 |p=>jP p h
theorem vw(g1:Gl X "len")(m1:X.mg "len"=none)(g2:Gl X "set")(m2:X.mg "set"=none)(he:RE X T Ew e f)(hc:X.calm=true:=by rfl)
  (hs:starEach [e] X.env=(false,eval e X.env)::starEach [] X.env:=by rfl) (Ua:starEach [.Call (.Name "set" p2) [e] [] pos2] X.env=(false,eval (.Call (.Name "set" p2) [e] [] pos2) X.env)::starEach [] X.env:=by rfl)
  (hp:(backTo pos (starEach [] X.env)).any (·.1)=false:=by rfl) (Ub:(backTo pos2 (starEach [] X.env)).any (·.1)=false:=by rfl):
  RE X T Ew (.Call (.Name "len" p1) [.Call (.Name "set" p2) [e] [] pos2] [] pos) (c1 bZ f):=by with_unfolding_all
 intro pins s σ H Q I ⟨F,m,ρ,h,R,p⟩;have pb:aG X.K T (aH X.K T) F m H Q Ew ((f ρ h).bind bZ):=p
 by_cases ht:∃xs h1,f ρ h=.ok (.tup xs) h1
 ·obtain⟨xs,h1,ef⟩:=ht;refine vC hc g1 m1 g2 m2 he hs Ua hp Ub pins s σ H Q I ⟨F,m,ρ,h,R,?_⟩;rw[ef]at pb ⊢;intro F1 m1 H1 x s1 R1 r1;have w:=aG.step s1 (show aG X.K T _ F m H Q Ew (bZ (.tup xs) h1)from pb);unfold bZ at w;dsimp only at w
  cases e2:dv xs with
  |none=>rw[e2]at w;exact w.elim
  |some ls=>
   rw[e2]at w;dsimp only at w
   split at w
   ·rename_i q
    cases r1 with
    |tup ea ra=>have em:=gz e2;subst em;have ev:=lu ra;subst ev;refine⟨_,ls.map S,rfl,R1.same.Qs ea,by rw[List.length_map];exact q,?_⟩;rw[zH];exact aV w R1 (.int _)
   ·exact w.elim
 ·have hl:=yi (T:=T) (Ew:=Ew) (f:=f) (p1:=p1) (p2:=p2) (pos:=pos) (pos2:=pos2) g1 m1 g2 m2 he hc hs Ua hp Ub;refine(show PE X _ (wE X T Ew (c1 jP f))from hl) pins s σ H Q I ⟨F,m,ρ,h,R,?_⟩;show aG X.K T (aH X.K T) F m H Q Ew ((f ρ h).bind jP)
  cases ef:f ρ h with
  |bad=>rw[ef]at pb;exact pb
  |exc e' h'=>rw[ef]at pb;exact pb
  |ok q h1=>
   rw[ef]at pb
   have:bZ q h1=jP q h1:=by
    unfold bZ
    split
    ·exact absurd ⟨_,_,ef⟩ ht
    ·rfl
   rw[show(Res.ok q h1).bind bZ=bZ q h1 from rfl,this]at pb;exact pb
noncomputable def Dt(h:List PO):PV→Option (Nat×List PV)
 |.ref n=>match h[n]? with
  |some (.lst xs)=>some (n,xs)
  |_=>none
 |_=>none
def kU(g8:List Nat)(j:Nat)(tt:Tx)(te:Ex):Ax:=fun ρ h=>(ag j ρ h).bind fun p h1=>match Dt h1 p with
 |some (_,xs)=>if xs.length<sizeLine then bG tt te (cJ g8 ρ) xs h1 else .bad
 |none=>.bad
def KqT(tt:Tx):Prop:=∀ ρ h b h',tt ρ h=.ok b h'→h'=h
def Wg(te:Ex):Prop:=∀ ρ h b h',te ρ h=.ok b h'→h'=h
theorem Bl(i:Nat):Wg (ag i):=fun ρ h b h' e=>by
 unfold ag at e
 split at e
 ·cases e;rfl
 ·cases e
theorem Iq(v:PV):Wg (cK v):=fun ρ h b h' e=>by cases e;rfl
theorem EC{g:PV→PV→List PO→Res PV}{f1 f2:Ex}(hg:∀p q h b h',g p q h=.ok b h'→h'=h)(h1:Wg f1)(h2:Wg f2):Wg (c2 g f1 f2):=fun ρ h b h' e=>by
 unfold c2 at e
 cases q1:f1 ρ h with
 |bad=>rw[q1]at e;cases e
 |exc _ _=>rw[q1]at e;cases e
 |ok x hx=>
  obtain rfl:=h1 _ _ _ _ q1;rw[q1]at e
  cases q2:f2 ρ hx with
  |bad=>simp only[Res.Mj,q2,Res.TV]at e;cases e
  |exc _ _=>simp only[Res.Mj,q2,Res.N5]at e;cases e
  |ok y hy=>obtain rfl:=h2 _ _ _ _ q2;simp only[Res.Mj,q2]at e;exact hg _ _ _ _ _ e
theorem EB(p q:PV)(h:List PO)(b:PV)(h':List PO)(e:b_ p q h=.ok b h'):h'=h:=by
 unfold b_ at e
 repeat' split at e
 all_goals first|(cases e;rfl)|cases e
theorem Bk:KqT dR:=fun ρ h b h' e=>by cases e;rfl
theorem Bd{K:W.Frag}{F H:Hp}{m:List Addr}{h:List PO}{p:PV}{x:V}{n:Nat}{xs:List PV}(R:RelH K T F m h H)(r:aH K T F m p x)(e:Dt h p=some (n,xs)):∃a,x=.ref a∧m[n]? =some a∧h[n]? =some (.lst xs):=by
 unfold Dt at e
 split at e
 ·split at e
  ·rename_i q
   cases e
   cases r with
   |ref em=>exact⟨_,rfl,em,q⟩
  ·cases e
 ·cases e
theorem tZ{elt:Expr}{x y:Str}{px py:Pos}{ifs:List Expr}{scope:Scope}{tt:Tx}{te:Ex}{M:List Str}{j:Nat}(g8:List Nat)(NZ:X.calm=true)(S:eX X.N X.env.scope scope g8 x M)
  (ht:∀cl C ex s H,Wf (dI X M scope cl C ex s H) T Ew ifs tt) (he:∀cl C ex s H,RE (dI X M scope cl C ex s H) T Ew elt te) (kt:KqT tt) (ke:Wg te)
  (hN:X.N[j]? =some y:=by rfl) (hv:Xd X.env.scope y:=by first|exact Or.inl rfl|exact Or.inr (Or.inl rfl)|exact Or.inr (Or.inr rfl)) (hd:(y==("__debug__":Str))=false:=by decide) (Qw:(y==("__classdict__":Str))=false:=by decide)
  (hs:∀z,foldedSetIterable (.Name y py) X.env z=pure z:=by intro _;rfl):RE X T Ew (.ListComp elt [⟨.Name x px,.Name y py,ifs,0⟩] scope pos) (cN QF (kU g8 j tt te)):=by with_unfolding_all
 refine PE.imp (xj (tt:=wT X T Ew tt) (te:=wE X T Ew te) g8 NZ S (xh (vB hN hv hd Qw)) ht he hs) ?_;rintro σ H Q ⟨F,m,ρ,h,R,p⟩;have p0:aG X.K T (aH X.K T) F m H Q Ew ((kU g8 j tt te ρ h).bind QF):=p;unfold kU ag at p0
 cases e1:ρ[j]? with
 |none=>rw[e1]at p0;exact p0.elim
 |some o=>
  cases o with
  |none=>rw[e1]at p0;exact p0.elim
  |some pv=>
   rw[e1]at p0;obtain⟨v,hv1,hv2⟩:=R.env.2 j pv e1;have rd:=R.toRelH.Rt hv2;dsimp only[Res.Mj]at p0
   cases e2:Dt h (aj h pv)with
   |none=>rw[e2]at p0;exact p0.elim
   |some nx=>
    obtain⟨n,xs⟩:=nx;rw[e2]at p0;dsimp only at p0;obtain⟨a,rfl,em,eh⟩:=Bd R.toRelH rd e2
    by_cases hz:xs.length<sizeLine
    ·rw[if_pos hz]at p0
     have at':∀{F2 m2 H2},bp F m H F2 m2 H2→RelH X.K T F2 m2 h H2→∃vs,M_ X.K H2 a vs∧ay X.K T F2 m2 xs vs:=fun s2 R2=>by obtain⟨_,vs,z1,z2⟩:=R2.obj n _ a eh (s2.idx n a em);exact⟨vs,.inl (.inl z1),z2⟩
     obtain⟨Xm,sq0,_⟩:=at' .refl R.toRelH
     refine⟨_,hv1,a,rfl,⟨Xm,sq0⟩,fun i n acc H2=>n=xs.length - i∧i≤xs.length∧acc.length≤i∧∃F2 m2 as,bp F m H F2 m2 H2∧RelH X.K T F2 m2 h H2∧ay X.K T F2 m2 as acc∧
      aG X.K T (aH X.K T) F2 m2 H2 Q Ew (((bG tt te (cJ g8 ρ) (xs.drop i) h).bind fun vs h3=>QF (as++vs) h3)),⟨_,rfl,Nat.zero_le _,acg _,F,m,[],.refl,R.toRelH,.nil,by simpa using p0⟩,?_⟩
     rintro i n' acc H2 ⟨rfl,hi,hac,F2,m2,as,s2,R2,ra,w2⟩
     obtain⟨vs,sq,rv⟩:=at' s2 R2;rcases Nat.lt_or_ge i xs.length with Rc|W2
     ·right
      have hlv:i<vs.length:=by rw[← rv.length];exact Rc
      refine⟨⟨vs,vs[i],sq,List.getElem?_eq_getElem hlv⟩,by omega,fun v H3 yy=>?_⟩;obtain⟨rfl,yy⟩:=yy;obtain⟨v',g1,g2⟩:=rv.get (List.getElem?_eq_getElem Rc);have g3:=yy vs sq;rw[g1]at g3
      cases g3
      have eE:kX X.K T F2 m2 (some xs[i]::cJ g8 ρ) (some v::gO g8 σ):=(s2.env R.env).cap g8 g2;rw[List.drop_eq_getElem_cons Rc,bG]at w2
      cases q1:tt (some xs[i]::cJ g8 ρ) h with
      |bad=>rw[q1]at w2;exact w2.elim
      |exc e' h'=>rw[q1]at w2;refine⟨F2,m2,_,h,⟨R2,eE⟩,?_⟩;rw[q1];exact w2
      |ok bb h'=>
       obtain rfl:=kt _ _ _ _ q1;rw[q1]at w2;refine⟨F2,m2,_,h',⟨R2,eE⟩,?_⟩;rw[q1];intro F4 m4 H4 b' s4 R4 eb
       cases eb
       have Wl:=s2.trans s4;have w4:=aG.step s4 w2
       cases bb with
       |false=>refine uz ⟨xs.length - (i+1),by omega,rfl,by omega,by omega,F4,m4,as,Wl,R4,s4.reps ra,?_⟩;exact w4
       |true=>
        dsimp only[Res.Mj]at w4;rw[if_pos rfl]at w4
        cases q2:te (some xs[i]::cJ g8 ρ) h' with
        |bad=>rw[q2]at w4;exact w4.elim
        |exc e' h2=>rw[q2]at w4;refine rQ ⟨F4,m4,_,h',⟨R4,s4.env eE⟩,?_⟩;rw[q2];exact w4
        |ok q h2=>
         obtain rfl:=ke _ _ _ _ q2;rw[q2]at w4;refine rQ ⟨F4,m4,_,h2,⟨R4,s4.env eE⟩,?_⟩;rw[q2];intro F5 m5 H5 y5 s5 R5 rq;refine⟨xs.length - (i+1),by omega,rfl,by omega,by rw[List.length_append];simp;omega,F5,m5,as++ [q],Wl.trans s5,R5,(s5.reps (s4.reps ra)).append (.cons rq .nil),?_⟩;have w5:=aG.step s5 w4
         have e3:(((bG tt te (cJ g8 ρ) (xs.drop (i+1)) h2).bind fun vs h3=>.ok (q::vs) h3).bind fun vs h3=>QF (as++vs) h3)=(bG tt te (cJ g8 ρ) (xs.drop (i+1)) h2).bind fun vs h3=>QF (as++ [q]++vs) h3:=by
          cases bG tt te (cJ g8 ρ) (xs.drop (i+1)) h2 with
          |ok vs h3=>simp
          |exc _ _=>rfl
          |bad=>rfl
         rw[← e3];exact w5
     ·left
      have e:i=xs.length:=by omega
      subst e;refine⟨⟨vs,sq,by rw[rv.length];exact acg _⟩,fun D hD=>?_⟩;rw[List.drop_length]at w2;have w3:aG X.K T (aH X.K T) F2 m2 H2 Q Ew (QF as h):=by simpa[bG]using w2
      exact fU w3 R2 ra D hD
    ·rw[if_neg hz]at p0;exact p0.elim
end
end L3
noncomputable section
namespace K9
open PySem PySem.Spec PyProof.Rows L2 L3
noncomputable def top(i:Nat):Stmt:=PySem.Challenge.pw_formsmith_k09_wrong_names_refused.main.body.getD i (.Pass ⟨0,0,0,0⟩)
noncomputable def kB:List PV:=[.int 0,.int 0,.int 0,.int 0]
noncomputable def Aa:List Nat:=[116,104,101,32,98,111,111,107,32,105,115,32,116,111,111,32,108,97,114,103,101,32,119,105,116,104,32,97,108,108,32,112,117,116,32,105,110]
noncomputable def bY:List Nat:=[97,98,99,100,101,102,103,104,105,106,107,108,109,110,111,112,113,114,115,116,117,118,119,120,121,122]
set_option genSizeOf false in
inductive Fn where
 |law|Ms|p7|v8|Mr|J2|K_|G4|K1|z7|Oc|Nk|E_|G3|h_|G5|j6|M7|k_|K8|J_|j7|sized|j8|i_|I_|K7|B_|K6|d8|J3|d7|g_|Mh|v5|D_|o7|Mw|o8|v9|m7
abbrev CC:=Fn→List PV→Out
abbrev DD:=Fn→List PV→List PO→Res PV
abbrev NN:=Fn→List PV→Res PV
def iq:Fn→Stmt
 |.law=>top 54
 |.Ms=>top 31
 |.p7=>top 41
 |.v8=>top 46
 |.Mr=>top 53
 |.J2=>top 29
 |.K_=>top 52
 |.G4=>top 39
 |.K1=>top 30
 |.z7=>top 38
 |.Oc=>top 40
 |.Nk=>top 32
 |.E_=>top 42
 |.G3=>top 45
 |.h_=>top 14
 |.G5=>top 43
 |.j6=>top 49
 |.M7=>top 50
 |.k_=>top 51
 |.K8=>top 37
 |.J_=>top 44
 |.j7=>top 15
 |.sized=>top 22
 |.j8=>top 47
 |.i_=>top 48
 |.I_=>top 33
 |.K7=>top 36
 |.B_=>top 34
 |.K6=>top 35
 |.d8=>top 16
 |.J3=>top 21
 |.d7=>Dz (top 7) 0
 |.g_=>top 23
 |.Mh=>top 18
 |.v5=>top 17
 |.D_=>top 24
 |.o7=>top 25
 |.Mw=>top 19
 |.o8=>top 20
 |.v9=>top 26
 |.m7=>top 27
noncomputable def oB:Fn→List Str
 |.law=> ["_law_script","_law_names_here","_law_book","_law_k","_law_cell_here","_law_at","_law_left","_law_found"]
 |.Ms=> ["_law_n","_law_some","_law_size","_law_at","_law_names_here","_law_k","_law_word","_law_told_here"]
 |.p7=> ["_law_cells","_law_spot","_law_menu","_law_book","_law_pieces","_law_many","_law_k","_law_n","_law_names_here","_law_handed","_law_at","_law_nodes","_law_name"]
 |.v8=> ["_law_book","_law_number","_law_piece","_law_elder","_law_at","_law_node","_law_names_here"]
 |.Mr=> ["_law_book","e","_law_some"]
 |.J2=> ["_law_script","_law_k"]
 |.K_=> ["_law_book","_law_cell_here","_law_names_here","_law_spots_here","_law_more","_law_at","_law_node","_law_own","_law_fresh","_law_wide","_law_piece","_law_nodes"]
 |.G4=> ["_law_book","_law_nodes","_law_number","_law_body","_law_deep","_law_left","_law_node","_law_at","_law_handed"]
 |.K1=> ["_law_cells","_law_spot","_law_k","_law_base"]
 |.z7=> ["_law_cells","_law_spot","_law_at","_law_deep"]
 |.Oc=> ["_law_book","_law_piece","_law_left"]
 |.Nk=> ["_law_nodes","_law_found","_law_node"]
 |.E_=> ["_law_nodes","_law_at","_law_names_here","_law_found","_law_k","_law_node"]
 |.G3=> ["_law_book","_law_number","_law_node","_law_names_here","_law_ahead"]
 |.h_=> ["book","size"]
 |.G5=> ["_law_book","_law_found","_law_k","_law_piece"]
 |.j6=> ["_law_node","_law_cell_here","_law_names_here","_law_more","_law_some","_law_paths","_law_k","_law_path"]
 |.M7=> ["_law_nodes","_law_way","_law_node","_law_old","_law_sides"]
 |.k_=> ["_law_book","_law_cell_here","_law_names_here","_law_k","_law_piece","_law_more","_law_rows"]
 |.K8=> ["_law_cells","_law_spot","_law_at","_law_deep","_law_n","_law_kind","_law_more","_law_path","_law_name","_law_nodes","_law_yes"]
 |.J_=> ["_law_node"]
 |.j7=> ["book","elders","number","piece","is_main"]
 |.sized=> ["book","sizes","piece","main"]
 |.j8=> ["_law_path","_law_cell_here","_law_names_here"]
 |.i_=> ["_law_rows","_law_cell_here","_law_more","_law_at"]
 |.I_=> ["_law_n","_law_at","_law_fields"]
 |.K7=> ["_law_cells","_law_spot","_law_at","_law_deep","_law_n","_law_fits","_law_name","_law_many","_law_handed","_law_paths","_law_first","_law_names_here"]
 |.B_=> ["_law_cells","_law_spot","_law_at","_law_many"]
 |.K6=> ["_law_at","_law_names_here","_law_inner"]
 |.d8=> ["nodes","way","names","many","elders","place","node","at","part"]
 |.J3=> ["names"]
 |.d7=> ["self","at"]
 |.g_=> ["nodes","sizes","whole","node"]
 |.Mh=> ["node","names","many","elders","path"]
 |.v5=> ["node"]
 |.D_=> ["one","other"]
 |.o7=> ["node","sizes"]
 |.Mw=> ["node"]
 |.o8=> ["node","piece"]
 |.v9=> ["inner","body_depth"]
 |.m7=> ["node","sizes","piece","many","body","body_depth"]
def mx:Fn→Str
 |.law=>"law"
 |.Ms=>"_law_names"
 |.p7=>"_law_good_book"
 |.v8=>"_law_first_wrong"
 |.Mr=>"_law_told"
 |.J2=>"_law_cell_at"
 |.K_=>"_law_changed"
 |.G4=>"_law_come"
 |.K1=>"_law_cell"
 |.z7=>"_law_grown"
 |.Oc=>"_law_few"
 |.Nk=>"_law_one"
 |.E_=>"_law_spots"
 |.G3=>"_law_node_wrong"
 |.h_=>"need_book"
 |.G5=>"_law_all_spots"
 |.j6=>"_law_node_other"
 |.M7=>"_law_set"
 |.k_=>"_law_piece_other"
 |.K8=>"_law_node_by"
 |.J_=>"_law_paths_in"
 |.j7=>"need_names"
 |.sized=>"sized"
 |.j8=>"_law_other_path"
 |.i_=>"_law_rows_other"
 |.I_=>"_law_path_by"
 |.K7=>"_law_used_by"
 |.B_=>"_law_paths_by"
 |.K6=>"_law_within"
 |.d8=>"need_nodes"
 |.J3=>"has_twice"
 |.d7=>"__init__"
 |.g_=>"size_of_nodes"
 |.Mh=>"is_wrong"
 |.v5=>"parts_within"
 |.D_=>"side_by_side"
 |.o7=>"size_of_node"
 |.Mw=>"paths_in"
 |.o8=>"is_wrong_use"
 |.v9=>"size_within"
 |.m7=>"size_of_use"
def ka:Fn→Str
 |.d7=>"BadName.__init__"
 |f=>mx f
def rS:Fn→Bool
 |.d7=>false
 |_=>true
set_option genSizeOf false in
inductive Nt where
 |ValueError|dict|enumerate|int|isinstance|len|list|max|range|set|tuple
def Gm:Nt→Str
 |.ValueError=>"ValueError"
 |.dict=>"dict"
 |.enumerate=>"enumerate"
 |.int=>"int"
 |.isinstance=>"isinstance"
 |.len=>"len"
 |.list=>"list"
 |.max=>"max"
 |.range=>"range"
 |.set=>"set"
 |.tuple=>"tuple"
def ge:Fn→List Str
 |.law=> ["_law_script"]
 |.Ms=> ["_law_n"]
 |.p7=> ["_law_cells","_law_spot","_law_menu"]
 |.v8=> ["_law_book"]
 |.Mr=> ["_law_book"]
 |.J2=> ["_law_script","_law_k"]
 |.K_=> ["_law_book","_law_cell_here","_law_names_here"]
 |.G4=> ["_law_book","_law_nodes","_law_number","_law_body","_law_deep","_law_left"]
 |.K1=> ["_law_cells","_law_spot"]
 |.z7=> ["_law_cells","_law_spot","_law_at","_law_deep"]
 |.Oc=> ["_law_book","_law_piece"]
 |.Nk=> ["_law_nodes"]
 |.E_=> ["_law_nodes","_law_at","_law_names_here"]
 |.G3=> ["_law_book","_law_number","_law_node","_law_names_here"]
 |.h_=> ["book"]
 |.G5=> ["_law_book"]
 |.j6=> ["_law_node","_law_cell_here","_law_names_here"]
 |.M7=> ["_law_nodes","_law_way","_law_node"]
 |.k_=> ["_law_book","_law_cell_here","_law_names_here"]
 |.K8=> ["_law_cells","_law_spot","_law_at","_law_deep"]
 |.J_=> ["_law_node"]
 |.j7=> ["book"]
 |.sized=> ["book"]
 |.j8=> ["_law_path","_law_cell_here","_law_names_here"]
 |.i_=> ["_law_rows","_law_cell_here","_law_more"]
 |.I_=> ["_law_n","_law_at"]
 |.K7=> ["_law_cells","_law_spot","_law_at","_law_deep","_law_n"]
 |.B_=> ["_law_cells","_law_spot","_law_at","_law_many"]
 |.K6=> ["_law_at","_law_names_here"]
 |.d8=> ["nodes","way","names","many","elders"]
 |.J3=> ["names"]
 |.d7=> ["self","at"]
 |.g_=> ["nodes","sizes"]
 |.Mh=> ["node","names","many","elders"]
 |.v5=> ["node"]
 |.D_=> ["one","other"]
 |.o7=> ["node","sizes"]
 |.Mw=> ["node"]
 |.o8=> ["node","piece"]
 |.v9=> ["inner"]
 |.m7=> ["node","sizes"]
def Te:Nat→Option Bool
 |3=>some true
 |6=>some true
 |_=>none
def tC_:List (Nat×Nat×Bool):=[(3,6,false),(3,5,false),(3,2,false),(3,1,false),(3,4,false),(3,8,false),(3,3,true),(3,7,false),(6,6,true),(6,5,false),(6,2,false),(6,1,false),(6,4,false),(6,8,false),(6,3,false),(6,7,false)]
def T7:Nat→Nat→Option Bool:=xq tC_
def Tr:Nat→String→Option Bool
 |3,"ValueError"=>some true
 |6,"ValueError"=>some true
 |_,_=>none
def im:Nat→Bool
 |3=>true
 |6=>true
 |_=>false
def AQ:Nat→Bool
 |6=>true
 |_=>false
abbrev aac:=cK (.int 1)
abbrev aad:=cK (.int 0)
abbrev aae:=cK (.int 3)
abbrev aaf:=cK (.int 2)
abbrev aag:=cK (.int 4)
abbrev aah:=af (ag 0) ah
abbrev aai:=c2 b_ (ag 0) aad
abbrev aaj:=c2 b_ (ag 0) aac
abbrev aak:=cK (.str [117,115,101])
abbrev aal:=cK (.str [99,104,111,105,99,101])
abbrev aam:=cK (.str [98,111,100,121])
abbrev aan:=af (ag 2) ah
abbrev aao:=cK (.str [108,111,111,112])
abbrev aap:=af (ag 1) ah
abbrev aaq:=c2 b_ (ag 0) aaf
abbrev aar:=c2 b_ (ag 0) aae
abbrev aas:=cK .non
abbrev aat:=Oz 2 (aE (w6 2) (aE (w6 3) bW))
abbrev aau:=cK (.str [110,97,109,101,115])
abbrev aav:=cK (.int 5)
abbrev aaw:=Oz 2 (aE (w6 1) (aE (w6 2) bW))
abbrev aax:=cK (.int 12)
abbrev aay:=aE (w6 5) (aE (w6 6) bW)
abbrev aaz:=cK (.int 8)
abbrev aaA:=cK (.str [116,101,120,116])
abbrev aaB:=c2 b_ (ag 1) aad
abbrev aaC:=cK (.str [112,108,97,99,101])
abbrev aaD:=c2 b_ (ag 5) aad
abbrev aaE:=c2 b_ (ag 2) aae
abbrev aa2:=af (ag 5) ah
abbrev aaF:=af (c2 aq (ag 4) aac) aa2
abbrev aaG:=cK (.str [104,97,110,100,101,100])
abbrev aaH:=cN bF aah
abbrev aaI:=cN aT ah
abbrev aaJ:=cD (ag 0) bw (bq (ag 3))
abbrev aaK:=c2 b_ (ag 4) aad
abbrev aaL:=c2 b_ (ag 2) aad
abbrev aaM:=c2 b_ (ag 2) aac
abbrev aaN:=c2 b_ (ag 1) aac
abbrev aaO:=c2 b_ (ag 0) aag
abbrev aaP:=aE (w6 6) (aE (w6 7) bW)
abbrev aaQ:=c2 b_ (ag 2) (c2 bx (ag 3) aax)
abbrev aaR:=mU Te T7 Tr
abbrev aaS:=af (ag 4) ah
abbrev aaT:=cK (.str [109,101,110,117])
abbrev aaU:=cN cG ah
abbrev aaV:=af (ag 0) aap
abbrev aaW:=cD (ag 0) (bq (c2 aq (ag 3) aac)) bw
abbrev aaX:=c1 mT aac
abbrev aaY:=au (c2 G9 aai aao)
abbrev aaZ:=au (c2 G9 aai aam)
abbrev aa0:=au (c2 G9 aai aak)
abbrev aa1:=af (c2 kK (ag 3) aac) ah
abbrev aa3:=aS (cK (.bl true))
abbrev aa4:=cN eZ ah
abbrev aa5:=c2 bx (ag 1) aav
abbrev aa6:=c2 b_ (ag 6) aad
abbrev aa7:=c2 b_ (ag 3) aaf
abbrev aa8:=c2 b_ (ag 3) aac
abbrev aa9:=c2 b_ (ag 2) aaf
abbrev aa_:=Oz 2 (aE (w6 4) (aE (w6 5) bW))
abbrev abb:=cK (.str [112,105,101,99,101])
abbrev abd:=af (ag 3) ah
abbrev abe:=af aaq ah
abbrev abf:=c2 aq (ag 2) (cN cG (af (cK (.str [122,122])) ah))
abbrev abg:=c2 dj (ag 5) aae
abbrev abh:=c2 bx (ag 5) aae
abbrev abj:=c2 b_ (ag 6) aae
abbrev abk:=c2 b_ (ag 3) aag
abbrev abl:=c2 b_ (ag 3) aae
abbrev abm:=c2 b_ (ag 3) aad
abbrev abn:=c2 b_ (ag 1) aae
abbrev abo:=c2 aq (ag 1) (cN aT aaS)
abbrev abp:=af (ag 6) ah
abbrev abq:=gZ (au (c2 Tw aaB aaN)) (au (c2 Ss (ag 3) aac))
abbrev abr:=af (ag 0) (af (ag 1) (af (ag 10) (af aag ah)))
abbrev abt:=iJ (ag 0)
abbrev abu:=af aaj ah
abbrev abv:=af aad ah
abbrev abw:=af aac ah
abbrev abx:=cK (.int 9)
abbrev aby:=iK aah
abbrev abz:=bq aae
abbrev abA:=Oz 3 (aE (w6 4) aay)
abbrev abB:=c2 b_ (ag 0) (ag 1)
abbrev abD:=af (ag 3) (af (cN aT (af aaQ ah)) ah)
abbrev abE:=af (ag 0) (af (ag 1) (af (ag 2) aa1))
abbrev abF:=cN aT aan
abbrev abG:=cK (.str [])
abbrev abH:=au (c2 G9 aai aal)
abbrev abI:=af aas (af aas ah)
abbrev abJ:=af aar ah
abbrev abK:=af aar (af aaO ah)
abbrev abL:=cK (.str [112,105,101,99,101,115])
abbrev abM:=au (c2 G9 (c2 bx (ag 1) aag) aad)
abbrev abN:=c2 bx (ag 5) aaz
abbrev abO:=c2 b_ (ag 6) aag
abbrev abP:=c2 b_ (ag 5) aae
abbrev abQ:=c2 b_ (ag 4) aaf
abbrev abR:=c2 b_ (ag 2) aaG
abbrev abS:=c2 b_ (ag 1) aau
abbrev abT:=Oz 2 aay
abbrev abU:=bq aaf
abbrev abV:=af (cD (ag 1) (bq aac) bw) aan
abbrev abW:=iJ (cD (ag 0) bw (bq (ag 1)))
abbrev abX:=cK (.str [101,108,115,101])
abbrev abY:=cK (.str [110,97,109,101])
abbrev abZ:=cK (.str [109,97,110,121])
abbrev ab0:=c2 b_ aaK aae
abbrev ab1:=af (ag 3) aan
abbrev ab2:=af (ag 3) aaS
abbrev ab3:=af (ag 11) ah
abbrev ab4:=af (ag 2) (af (ag 3) aaF)
abbrev ab5:=cK (.int 13)
abbrev ab6:=af (ag 8) ah
abbrev ab7:=cK (.int 7)
abbrev ab8:=cK (.int 6)
abbrev ab9:=au (c2 Sv (ag 5) aas)
abbrev ab_:=au (c2 G9 (ag 5) aaz)
abbrev acd:=cK (.int 2147483647)
abbrev ace:=Oz 3 (aE (w6 5) aaP)
def cY(C:CC)(Z:DD):Sx:=
 (aA (eP (aZ (Z .j7) aah))
  (aA (aO 1 (bn (C .sized) aah))
  (aA (J5 (gZ (au (c2 Tw aaB (cK (.int 400)))) (au (c2 Tw aaN (cK (.int 24))))) (qU 3 (af (cK (.str Aa)) ah)) bo)
  (aS (c2 b_ (c2 b_ (ag 0) aaX) aaf)))))
def aI(C:CC)(Z:DD)(z:Bool):Sx:=(aA (aO 4 (c2 G9 (ag 2) (c2 kK aaH aac)))
  (aA (J5 (gZ (au (c2 Rz aa8 (ag 1))) (gZ (ki (bn (C .J3) (af aa7 ah))) (fQ (ki (ag 4)) (au (c2 dQ abl aas))))) (iQ z 6 (af abF ah)) bo)
  (aA (eP (aZ (Z .d8) (af abk (af abF (af aa7 (af abl aap))))))
  (tQ (ag 1) aa8 (ag 3)))))
def df(C:CC)(Z:DD)(z:Bool):Sx:=
 (aA (aO 1 xK)
  (gD aby aat (aI C Z z)))
def bM(C:CC)(Z:DD):Sx:=(eP (aZ (Z .d8) (af (c2 b_ (ag 8) aaf) (af (c2 aq (ag 7) (c2 b_ (ag 8) aad)) (af (c2 aq (ag 2) (c2 b_ (ag 8) aac)) ab2)))))
def bv(C:CC)(D:DD)(Z:DD)(z:Bool):Sx:=(aA (aO 7 (c2 aq (ag 1) (cN aT aa2)))
  (aA (J5 (ki (aZ (D .Mh) (af (ag 6) (af (ag 2) ab2)))) (iQ z 6 (af (ag 7) ah)) bo)
  (gD (iJ (bn (C .v5) abp)) (w6 8) (bM C Z))))
def de(C:CC)(D:DD)(Z:DD)(z:Bool):Sx:=
 (gD aby abT (bv C D Z z))
def iL(C:CC):Sx:=(aA (aO 4 (c2 bx (c2 hR (c2 aq (c2 aq (bn (C .J2) (af (ag 0) (af (c2 aq aaf (ag 3)) ah))) (c2 hR (c2 hR (cK (.int 7919)) (ag 3)) (ag 3))) aac) (cK (.int 48271))) acd))
  (aO 2 (bn (C .K_) (af (ag 2) (af (ag 4) aap)))))
def uQ(C:CC)(D:DD):Sx:=
 (aA (aO 1 (bn (C .Ms) (af (bn (C .J2) (af (ag 0) abv)) ah)))
  (aA (aO 2 (aZ (D .p7) (af (ag 0) (af (cN eZ (af aad (af (cK (.int 40)) ah))) aap))))
  (aA (gD (fP (af (c2 b_ (cN cG (af aac (af aac (af aac (af aaf (af aaf abv)))))) (c2 bx (bn (C .J2) (af (ag 0) abw)) ab8)) ah)) (w6 3) (iL C))
  (aA (aO 5 (bn (C .v8) aan))
  (aA (aO 6 (cN eZ (af (cK (.int 5000)) ah)))
  (aA (J5 ab9 (eP (aZ (D .G4) (af (ag 2) (af (c2 b_ (c2 b_ (ag 2) aaX) aag) (af (c2 kK (cN bF aan) aac) (af aas (af aac abp))))))) bo)
  (aA (J5 (au (c2 Ss aa6 aad)) aa3 bo)
  (aA (aO 7 (bn (C .Mr) aan))
  (aA (J5 ab9 (aS (Ue (c2 G9 (ag 7) (cN cG (af abZ abw))) (DS (c2 G9 (ag 7) (cN cG (af (c2 b_ (c2 b_ (ag 2) aaX) aaf) ah))) (cN gU (af (c2 b_ (ag 7) aad) (af (cK (.ty "tuple")) ah)))))) bo)
  (aS (DS (c2 G9 (ag 7) (cN cG (af abY aa2))) (cN gU (af (c2 b_ (ag 7) aac) (af (cK (.ty "tuple")) ah))))))))))))))
def jF(C:CC):Ex:=(c2 b_ (ag 1) (c2 bx (c2 aq (c2 aq (c2 dj (ag 2) (cK (.int 192))) (c2 hR aav (ag 0))) (c2 hR (c2 hR aae (c2 dj (ag 3) aaz)) (cN yw (af (c2 G9 (c2 bx (ag 2) aae) aad) ah)))) (cK (.int 26))))
def dF(C:CC):Sx:=(aA (aO 6 (cN Do (eN [1,0,5] (fP (af aaz ah)) dR (jF C))))
  (J5 (au (c2 G9 (c2 bx (ag 0) aae) aad)) (eP (cM dU bV (ag 4) (af (cM qt lI abG (af (cD (ag 6) bw (bq (c2 aq aac abN))) ah)) ah))) (J5 (au (c2 G9 (c2 bx (ag 0) aae) aac)) (aA (iP (ag 6) (ag 3) (c2 b_ (ag 1) (c2 bx (c2 aq (c2 aq (c2 dj (ag 0) (cK (.int 192))) (c2 hR ab7 (ag 5))) aac) (cK (.int 26)))))
  (eP (cM dU bV (ag 4) (af (cM qt lI abG (af (cD (ag 6) bw (bq (ag 2))) ah)) ah)))) (eP (cM dU bV (ag 4) (af (cD (cM qt lI abG (af (c2 aq (cD (ag 6) (bq abN) bw) (cD (ag 6) bw (bq abN))) ah)) bw (bq (c2 kK aaz (c2 dj (ag 5) aaz)))) ah))))))
def jp(C:CC):Tx:=(au (c2 Rz (ag 0) (ag 1)))
def jE(C:CC):Ex:=(ag 0)
def gx(C:CC):Sx:=
 (aA (aO 1 (cK (.str bY)))
  (aA (aO 2 (c2 aq aac (c2 bx (c2 dj (ag 0) aae) aaz)))
  (aA (aO 3 (c2 bx (c2 dj (ag 0) (cK (.int 24))) (ag 2)))
  (aA (aO 4 aa4)
  (aA (gD (fP (af aax ah)) (w6 5) (dF C))
  (aA (aO 7 (cN cG (af (cK (.str [97,115])) (af (cK (.str [98,101,116,119,101,101,110])) (af aam (af abX (af (cK (.str [101,110,100])) (af (cK (.str [102,111,114])) (af (cK (.str [105,102])) (af (cK (.str [105,110])) (af abb (af aak (af (cK (.str [119,105,116,104])) ah)))))))))))))
  (aA (J5 (gZ (au (c2 Ss (c1 bZ (ag 4)) aax)) (au (c2 Ow (cN QF (eN [7] (iJ (ag 4)) (jp C) (jE C))) aaU))) (aS (cN cG (af (cK (.str [97])) (af (cK (.str [98])) (af (cK (.str [97,98])) (af (cK (.str [98,97])) (af (cK (.str [105,116,101,109])) (af (cK (.str [105,116,101,109,115])) (af (cK (.str [99])) (af (cK (.str [120])) (af (cK (.str [120,121])) (af (cK (.str [121])) (af (cK (.str [114,111,119])) (af (cK (.str [114,111,119,115])) ah)))))))))))))) bo)
  (aS (ag 4)))))))))
def gj(C:CC):Ex:=(c2 b_ (ag 1) (c2 bx (c2 aq (c2 dj (ag 2) aav) (ag 0)) aax))
def eC(C:CC):Ex:=aai
def eA(C:CC):Ex:=aai
def ei(C:CC)(D:DD):Sx:=(aA (aO 7 (aZ (D .K1) aaV))
  (aA (aO 8 (cN fx (af (cN QF (eN [2,7] (fP (af (c2 bx (ag 7) aav) ah)) dR (gj C))) ah)))
  (aA (aO 9 aas)
  (aA (J5 (fQ (au (c2 Tw (c2 bx (c2 dj (ag 7) (cK (.int 60))) aae) aad)) (au (c2 Ss (ag 6) (c2 kK (ag 5) aac)))) (aO 9 (c2 bx (c2 dj (ag 7) (cK (.int 180))) aag)) bo)
  (aA (aO 10 (uO [(aau,(ag 8)),(abL,(cN qa aaS)),(aaG,(ag 9)),(aaT,(ag 2))]))
  (aA (iP (ag 1) aac (c2 kK (c2 aq aaB (cK (.int 30))) (c2 hR aax (cN yw (af (c2 Tw (ag 5) aav) ah)))))
  (aA (aO 11 (aZ (D .z7) abr))
  (aA (J5 (gZ (au (c2 G9 (ag 11) aaI)) (au (c2 G9 (c2 bx (c2 dj (ag 7) (cK (.int 720))) aae) aac))) (aO 11 (c2 aq (ag 11) (aZ (D .z7) abr))) bo)
  (aA (aO 12 (c2 b_ (ag 2) (c2 bx (c2 aq (c2 dj (ag 7) (cK (.int 2160))) (ag 6)) aax)))
  (aA (J5 (au (c2 Rz (ag 12) (cN QF (kU [] 4 dR (eC C))))) (aO 12 (c2 b_ (cN cG (af (cK (.str [102,105,114,115,116])) (af (cK (.str [115,101,99,111,110,100])) (af (cK (.str [116,104,105,114,100])) (af (cK (.str [102,111,117,114,116,104])) (af (cK (.str [102,105,102,116,104])) (af (cK (.str [115,105,120,116,104])) (af (cK (.str [115,101,118,101,110,116,104])) (af (cK (.str [101,105,103,104,116,104])) ah))))))))) (ag 6))) bo)
  (aA (J5 (au (c2 Rz (ag 12) (cN QF (kU [] 4 dR (eA C))))) (aO 12 (c2 aq (ag 12) (cK (.str [113])))) bo)
  (aA (eP (cM dU bV (ag 3) (af (aZ (D .Oc) (af (ag 3) (af (cN aT (af abb (af (ag 12) (af (ag 8) (af (ag 9) (af (bn (C .Nk) ab3) ah)))))) ah))) ah)))
  (eP (cM dU bV (ag 4) (af (cN aT (af (ag 12) (af (cN bF ab6) (af (ag 9) ah)))) ah)))))))))))))))
def fN(C:CC)(D:DD):Sx:=
 (aA (aO 3 aa4)
  (aA (aO 4 aa4)
  (aA (aO 5 (c2 b_ (cN cG (af aac (af aaf (af aae (af aag (af aav (af aae (af aag (af aaz ah))))))))) (c2 bx (c2 dj (aZ (D .K1) aaV) ab7) aaz)))
  (aA (gD (fP aa2) (w6 6) (ei C D))
  (aS (cN fx abd))))))
def dB(C:CC):Ex:=aaj
def bU(C:CC):Sx:=(J5 (ki (bn (C .G3) (af (ag 0) (af (ag 1) (af (ag 5) abp))))) (aS (ag 4)) bo)
def aL(C:CC):Sx:=(aA (aO 3 (cN QF (eN [] abW dR (dB C))))
  (aA (J5 (gZ (au (c2 Rz aaM (ag 3))) (au (c2 Ss (c1 bZ aa9) (cN bF (af aa9 ah))))) (aS (cN aT aap)) bo)
  (aA (J5 (fQ (au (c2 G9 (ag 1) (c2 kK aaH aac))) (au (c2 dQ aaE aas))) (aS (cN aT aap)) bo)
  (gD (iJ (bn (C .E_) (af (c2 b_ (ag 2) aag) (af (cN aT aap) (af aa9 ah))))) abA (bU C)))))
def bX(C:CC):Sx:=
 (aA (gD aby aaw (aL C))
  (aS aas))
def iH(C:CC)(Z:DD):Sx:=
 (Cz im (aS (cN cG (af (aZ (Z .h_) aah) ah))) 1 3 (aA (aO 2 (cN cG (af (cN aaR (af (ag 1) (af (cK (.cls 6)) ah))) (af (cN aaR (af (ag 1) (af (cK (.cls 3)) ah))) (af (cN aaR (af (ag 1) (af (cK (.cls 5)) ah))) (af (cN aaR (af (ag 1) (af (cK (.cls 1)) ah))) ah))))))
  (aA (aO 2 (c2 aq (ag 2) (cN cG (af (cN aaR (af (ag 1) (af (cK (.cls 2)) ah))) (af (cN aaR (af (ag 1) (af (cK (.cls 7)) ah))) (af (cN aaR (af (ag 1) (af (cK (.cls 8)) ah))) (af (cN aaR (af (ag 1) (af (cK (.cls 4)) ah))) ah)))))))
  (aA (J5 (gZ (au (c2 Ow (cM dU rD (ag 2) (af (cK (.bl true)) ah)) aac)) (Ei (ki (cN aaR (af (ag 1) (af (cK (.ty "ValueError")) ah)))))) (aS (cN cG (af abX ah))) bo)
  (aS (wc (ki aaL) (cN cG (af abY (af (c1 (Ys AQ) (ag 1)) ah))) (cN cG (af abZ (af (cN yw (af aaM ah)) ah)))))))))
def fY(C:CC):Sx:=
 (aA (J5 (au (c2 Ss (ag 1) aaH)) (aS abB) bo)
  (aS aad))
def bC(C:CC):Tx:=(fQ (au (c2 G9 (c2 b_ aaj aad) aak)) (au (c2 Tw (cN bF (af (GK (c2 b_ aaj aae) aaI) ah)) aac)))
def ky(C:CC):Ex:=(ag 0)
def cZ(C:CC):Sx:=
 (aA (aO 3 (bn (C .G5) aah))
  (aA (aO 4 (c2 dj (ag 1) aag))
  (aA (J5 (gZ abM (au (c2 G9 (ag 3) aaU))) (aS (bn (C .k_) (af (ag 0) (af (ag 4) aan)))) bo)
  (aA (zK ace (c2 b_ (ag 3) (c2 bx (ag 4) (cN bF abd))))
  (aA (aO 8 (bn (C .j6) (af (ag 6) (af (c2 dj (ag 4) (cN bF abd)) aan))))
  (aA (aO 9 (cN QF (eN [] (iJ (ag 3)) (bC C) (ky C))))
  (aA (J5 (fQ (au (c2 Ow (ag 9) aaU)) (au (c2 G9 (c2 bx (c2 dj (ag 4) aae) aag) aac))) (aA (zK ace (c2 b_ (ag 9) (c2 bx (ag 4) (cN bF (af (ag 9) ah)))))
  (aO 8 (c2 aq (cD (ag 6) bw abz) (cN aT (af (c2 km (cD abj bw (bq aac)) (cN bF (af abj ah))) (af abO ah)))))) bo)
  (aA (aO 10 (c2 b_ (ag 0) aaD))
  (aA (aO 11 (bn (C .M7) (af (c2 b_ (ag 10) aag) (af (cD (ag 5) (bq aac) bw) ab6))))
  (aS (c2 aq (c2 aq (cD (ag 0) bw (bq aaD)) (cN aT (af (c2 aq (cD (ag 10) bw (bq aag)) (cN aT ab3)) ah))) (cD (ag 0) (bq (c2 aq aaD aac)) bw))))))))))))
def jg(C:CC):Ex:=aaj
def bf(C:CC)(D:DD):Sx:=(aA (iP (ag 5) aad (c2 kK aaD aac))
  (aA (J5 (gZ (au (c2 Ss aaD aad)) (au (c2 Tw (ag 4) (cK (.int 40))))) (aA (iP (ag 5) aad aaX)
  zJ) bo)
  (J5 (au (c2 G9 aa6 aao)) (eP (aZ (D .G4) (af (ag 0) (af abj ab4)))) (J5 (au (c2 G9 aa6 aal)) (eP (aZ (D .G4) (af (ag 0) (af (c2 aq (c2 b_ (ag 6) aaf) abj) ab4)))) (J5 (au (c2 G9 aa6 aak)) (aA (aO 7 (cM dU nz (cN QF (eN [] abt dR (jg C))) (af (c2 b_ (ag 6) aac) ah)))
  (aA (aO 8 (wc (au (c2 Sv abO aas)) aas (cN aT (af abO (af (ag 2) abd)))))
  (eP (aZ (D .G4) (af (ag 0) (af (c2 b_ (c2 b_ (ag 0) (ag 7)) aag) (af (ag 7) (af (ag 8) aaF)))))))) (J5 (fQ (au (c2 G9 aa6 aam)) (au (c2 dQ (ag 3) aas))) (eP (aZ (D .G4) (af (ag 0) (af abm (af aa8 (af aa7 aaF)))))) bo))))))
def uR(C:CC)(D:DD):Sx:=
 (gD (iJ (ag 1)) (w6 6) (bf C D))
def iI(C:CC):Sx:=
 (aA (iP (ag 1) aad (c2 aq aaB aac))
  (aA (aO 2 aaB)
  (aA (aO 3 (c2 aq (c2 hR (c2 hR (cK (.int 31)) (ag 2)) (ag 2)) (c2 hR (cK (.int 7919)) (ag 2))))
  (aA (J5 (au (c2 Tw aaH aad)) (aO 3 (c2 aq (ag 3) (c2 hR (c2 b_ (ag 0) (c2 bx (ag 2) aaH)) (c2 aq aac (c2 dj (ag 2) aaH))))) bo)
  (aS (c2 dj (c2 bx (c2 hR (ag 3) (cK (.int 48271))) acd) ab7))))))
def jG(C:CC)(D:DD):Ex:=(aZ (D .K8) (af (ag 1) (af (ag 2) ab2)))
def jY(C:CC)(D:DD):Sx:=
 (aS (bn (C .Nk) (af (cN QF (eN [0,1,2,3] (fP (af (c2 bx (c2 dj (aZ (D .K1) aaV) aav) aag) ah)) dR (jG C D))) ah)))
def me(C:CC):Tx:=(au (c2 Rz aai (cN aT (af aaA (af aaC (af aam ah))))))
def mH(C:CC):Ex:=(ag 0)
def lY(C:CC)(D:DD):Sx:=
 (aA (aO 2 (cN eZ (af (cK (.int 500)) ah)))
  (aA (eP (aZ (D .G4) (af (c2 aq (ag 0) (cN cG aap)) (af (c2 b_ (ag 1) aag) (af aaH (af aas (af aac aan)))))))
  (aA (J5 (au (c2 pGe aaL aad)) (aS (ag 1)) bo)
  (aS (c2 aq (cD (ag 1) bw (bq aag)) (cN aT (af (bn (C .Nk) (af (cN QF (eN [] (iJ (c2 b_ (ag 1) aag)) (me C) (mH C))) ah)) ah)))))))
def eJ(C:CC):Sx:=(J5 (fQ (au (c2 G9 aaL aaA)) (fQ (au (c2 Ow (ag 1) aaU)) (au (c2 G9 (c2 b_ (c2 b_ (ag 1) aaX) aad) aaA)))) (iP (ag 1) aaX (cN aT (af aaA (af (c2 aq (c2 b_ (c2 b_ (ag 1) aaX) aac) aaM) ah)))) (eP (cM dU bV (ag 1) aan)))
def nE(C:CC):Sx:=
 (aA (aO 1 aa4)
  (aA (gD abt (w6 2) (eJ C))
  (aS (cN fx aap))))
def bI(C:CC):Sx:=(aA (eP (cM dU bV (ag 3) (af (cN aT (af abo (af (ag 5) aan))) ah)))
  (J5 (au (c2 G9 aaD aao)) (aO 3 (c2 ko (ag 3) (bn (C .E_) (af abP (af abo (af (c2 aq (ag 2) (cN aT (af (c2 b_ (ag 5) aac) ah))) ah)))))) (J5 (au (c2 G9 aaD aal)) (aO 3 (c2 ko (c2 aq (ag 3) (bn (C .E_) (af (c2 b_ (ag 5) aaf) (af (c2 aq (ag 1) (cN aT (af (ag 4) abv))) aan)))) (bn (C .E_) (af abP (af (c2 aq (ag 1) (cN aT (af (ag 4) abw))) aan))))) (J5 (fQ (au (c2 G9 aaD aak)) (au (c2 dQ (c2 b_ (ag 5) aag) aas))) (aO 3 (c2 ko (ag 3) (bn (C .E_) (af (c2 b_ (ag 5) aag) (af abo (af (c2 aq (ag 2) abP) ah)))))) bo))))
def fD(C:CC):Sx:=
 (aA (aO 3 aa4)
  (aA (gD aby aa_ (bI C))
  (aS (ag 3))))
def dM(C:CC):Tx:=(au (c2 hG aai (ag 1)))
def dP(C:CC):Ex:=(ag 0)
def dL(C:CC):Tx:=(au (c2 G9 aaj aaN))
def dO(C:CC):Ex:=(ag 0)
def aR(C:CC):Sx:=
 (aA (J5 (au (c2 Ow (cN QF (eN [3] (iJ (bn (C .J_) aan)) (dM C) (dP C))) aaU)) aa3 bo)
  (aA (J5 (au (c2 G9 aaL aam)) (aS (Ue (c2 Sv (c2 b_ abB aae) aas) (c2 Ow (c2 b_ abB aae) (cN bF (af aaM ah))))) bo)
  (aA (J5 (au (c2 Ow aaL aak)) (aS (cK (.bl false))) bo)
  (aA (aO 4 (cN QF (eN [2] abW (dL C) (dO C))))
  (aA (J5 (gZ (au (c2 G9 (ag 4) aaU)) (au (c2 Ow (cN bF (af (c2 b_ aaK aaf) ah)) (cN bF (af aa9 ah))))) aa3 bo)
  (aA (J5 (gZ (au (c2 Sv ab0 aas)) (au (c2 Sv aaE aas))) (aS (Ue (c2 dQ ab0 aas) (c2 dQ aaE aas))) bo)
  (aS (Ue (c2 Ow (cN bF (af aaE ah)) ab0) (c2 Ss (c1 bZ aaE) (cN bF (af aaE ah)))))))))))
def cF(C:CC):Sx:=(aO 1 (c2 aq (ag 1) (bn (C .E_) (af abk (af abF (af aa7 ah))))))
def fO(C:CC):Sx:=
 (aA (aO 1 aaU)
  (aA (gD aby aat (cF C))
  (aS (ag 1))))
def cU(C:CC):Sx:=(eP (cM dU bV (ag 5) (af (bn (C .j8) (af (ag 7) (af (c2 dj (ag 3) (c2 aq (ag 6) aac)) aan))) ah)))
def aF(C:CC):Sx:=
 (aA (aO 3 (c2 dj (ag 1) aav))
  (aA (J5 (au (c2 G9 aai aaC)) (aA (J5 (au (c2 G9 aa5 aad)) (aS (cN aT (af aam (af (c2 km (cN aT abu) (c2 bx (ag 3) aag)) ah)))) bo)
  (aS (cN aT (af aaC (af (bn (C .j8) (af aaj ab1)) abe))))) bo)
  (aA (J5 aaY (aA (J5 (au (c2 G9 (c2 bx (ag 1) aaf) aad)) (aS (cN aT (af aao (af aaQ (af aaq abK))))) bo)
  (aS (cN aT (af aao (af aaj (af (bn (C .j8) (af aaq ab1)) abK)))))) bo)
  (aA (J5 abH (aS (cN aT (af aal (af (bn (C .j8) (af aaj ab1)) (af aaq abJ))))) bo)
  (aA (J5 aaZ (aS (cN aT (af aam (af (bn (C .i_) (af aaj abD)) ah)))) bo)
  (aA (J5 (au (c2 Ow aai aak)) (aS (cN aT (af aak (af (c2 b_ (ag 2) (c2 aq aaz (c2 bx (ag 3) aag))) (af (c2 km (cN aT (af (cN aT (af (c2 b_ (ag 2) (c2 bx (c2 dj (ag 3) aag) aax)) ah)) ah)) (c2 bx (c2 dj (ag 3) (cK (.int 48))) aae)) abI))))) bo)
  (aA (J5 (au (c2 G9 aa5 aad)) (aS (c2 aq (cN aT (af aak (af (c2 b_ abf (c2 bx (ag 3) ab5)) ah))) (cD (ag 0) abU bw))) bo)
  (aA (J5 (au (c2 G9 aa5 aac)) (aS (c2 aq (c2 aq (cD (ag 0) bw abU) (cN aT (af (bn (C .i_) (af aaq abD)) ah))) (cD (ag 0) abz bw))) bo)
  (aA (J5 (fQ (au (c2 G9 aa5 aaf)) (au (c2 dQ aar aas))) (aS (c2 aq (cD (ag 0) bw abz) (cN aT (af (bn (C .i_) (af aar (af (ag 3) (af aaQ ah)))) (af aaO ah))))) bo)
  (aA (J5 (au (c2 G9 aa5 aae)) (aA (aO 4 (c2 b_ (cN cG (af (cN aT abI) (af (cN aT (af aaI (af aaI ah))) (af (cN aT (af (cN aT (af (c2 b_ (ag 2) (c2 bx (c2 dj (ag 3) aae) aax)) ah)) (af aaI ah))) ah)))) (c2 bx (ag 3) aae)))
  (aS (c2 aq (cD (ag 0) bw abz) (ag 4)))) bo)
  (aA (aO 5 aa4)
  (aA (gD (iK abe) (Oz 2 aaP) (cU C))
  (aS (c2 aq (c2 aq (cD (ag 0) bw abU) (cN aT (af (cN fx aa2) ah))) (cD (ag 0) abz bw)))))))))))))))
def gm(C:CC):Sx:=
 (aA (aO 3 (c2 b_ (ag 0) aaB))
  (aA (J5 (au (c2 Tw (cN bF aap) aac)) (J5 (au (c2 G9 abm aal)) (aA (aO 4 (cN eZ (af aa7 (af abl ah))))
  (aA (iP (ag 4) aaN (bn (C .M7) (af (c2 b_ (ag 4) aaN) (af (cD (ag 1) abU bw) aan))))
  (aO 2 (cN aT (af aal (af aa8 (af aaK (af (c2 b_ (ag 4) aac) ah)))))))) (J5 (au (c2 G9 abm aao)) (aO 2 (c2 aq (cD (ag 3) bw abz) (cN aT (af (bn (C .M7) (af abl abV)) (af abk ah))))) (aO 2 (c2 aq (cD (ag 3) bw (bq aag)) (cN aT (af (bn (C .M7) (af abk abV)) ah)))))) bo)
  (aS (c2 aq (c2 aq (cD (ag 0) bw (bq aaB)) abF) (cD (ag 0) (bq (c2 aq aaB aac)) bw)))))
def bJ(C:CC):Sx:=
 (aA (aO 3 (c2 bx (ag 1) aaH))
  (aA (aO 4 (c2 b_ (ag 0) (ag 3)))
  (aA (aO 5 (c2 dj (ag 1) aaH))
  (aA (J5 (au (c2 G9 abh aad)) (aO 4 (c2 aq (cN aT (af abb (af (c2 b_ (ag 2) (c2 aq aaz (c2 bx abg aag))) ah))) (cD (ag 4) abU bw))) (J5 (au (c2 G9 abh aac)) (aA (aO 6 (bn (C .i_) (af abQ (af abg (af (c2 b_ (ag 2) (c2 bx abg aax)) ah)))))
  (aO 4 (c2 aq (c2 aq (cD (ag 4) bw abU) (cN aT abp)) (cD (ag 4) abz bw)))) (aO 4 (c2 aq (cD (ag 4) bw abz) (cN aT (af (c2 b_ (cN cG (af aas (af aad (af aac (af aaf (af aae ah)))))) (c2 bx abg aav)) (af (c2 b_ (ag 4) aag) ah)))))))
  (aS (c2 aq (c2 aq aaJ (cN aT aaS)) aaW))))))
def fX(C:CC)(D:DD):Sx:=
 (aA (aO 4 (c2 dj (aZ (D .K1) aaV) aae))
  (aA (aO 5 (c2 bx (ag 4) abx))
  (aA (aO 6 (c2 dj (ag 4) abx))
  (aA (J5 abq (aO 5 abh) bo)
  (aA (J5 (fQ (au (c2 Tw (ag 5) aav)) (au (c2 Ss (ag 5) aaz))) (aS (aZ (D .K7) (af (ag 0) (af (ag 1) (af (ag 2) (af (ag 3) abp)))))) bo)
  (aA (J5 (fQ ab_ (fQ (au (c2 dQ abR aas)) (gZ (au (c2 G9 abR aad)) (au (c2 Ow (c2 b_ (ag 2) aau) aaI))))) (aS (cN aT (af aam (af (aZ (D .B_) (af (ag 0) (af (ag 1) (af (ag 2) (af abR ah))))) ah)))) bo)
  (aA (J5 (gZ (au (c2 G9 (ag 5) aad)) (gZ ab_ (au (c2 G9 (c2 b_ (ag 2) aau) aaI)))) (aS (cN aT (af aaA (af (c2 b_ (cN cG (af (cK (.str [97])) (af (cK (.str [123])) (af (cK (.str [10])) (af (cK (.str [60,98,62])) (af (cK (.str [125,125])) (af (cK (.str [32,126])) ah))))))) (c2 bx (ag 6) ab8)) ah)))) bo)
  (aA (aO 7 (bn (C .I_) (af (aZ (D .K1) aaV) aan)))
  (aA (J5 (au (c2 Ss (ag 5) aae)) (aS (cN aT (af aaC (af (ag 7) (af (c2 b_ (cN cG (af (cK (.str [119,111,114,100])) (af (cK (.str [110,117,109,98,101,114])) (af (cK (.str [113,117,111,116,101,100])) (af (cK (.str [112,108,97,105,110])) (af (cK (.str [108,105,110,101])) ah)))))) (c2 bx (ag 6) aav)) ah))))) bo)
  (aA (J5 (au (c2 Ss (ag 5) aav)) (aA (aO 8 (c2 b_ (c2 b_ (ag 2) aaT) (c2 bx (ag 6) aax)))
  (aA (aO 9 (aZ (D .z7) (af (ag 0) (af (ag 1) (af (bn (C .K6) (af (ag 2) (af (cN aT ab6) ah))) aa1)))))
  (aS (cN aT (af aao (af (ag 8) (af (ag 7) (af (ag 9) (af (c2 b_ (cN cG (af abG (af (cK (.str [44,32])) (af (cK (.str [10])) ah)))) (c2 bx (c2 dj (ag 6) aax) aae)) ah))))))))) bo)
  (aA (aO 10 (aZ (D .z7) abE))
  (aS (cN aT (af aal (af (ag 7) (af (ag 10) (af (aZ (D .z7) abE) ah)))))))))))))))))
def bP(C:CC):Sx:=
 (aA (J5 (au (c2 Rz aai (cN aT (af aaC (af aal ah))))) (aS (cN cG abu)) bo)
  (aA (J5 aaY (aS (cN cG abe)) bo)
  (aA (J5 aa0 (aS (cN qa abe)) bo)
  (aS (wc aaZ (cN qa abu) aaU)))))
def gv(C:CC)(D:DD):Sx:=(tQ (ag 1) aaM (aZ (D .g_) (af (c2 b_ (ag 2) aag) aap)))
def nD(C:CC)(D:DD):Sx:=
 (aA (aO 1 xK)
  (aA (gD abt (w6 2) (gv C D))
  (aA (aO 3 (c2 b_ (ag 1) (c2 b_ (c2 b_ (ag 0) aaX) aac)))
  (aS (cN aT (af abm (af aa8 ah)))))))
def eU(C:CC):Sx:=
 (aS (c2 aq (cN aT (af (c2 b_ abf (c2 bx (ag 1) ab5)) ah)) (cD (ag 0) (bq aac) bw)))
def cA(C:CC):Sx:=
 (aA (aO 3 (c2 bx (c2 dj (ag 1) aag) (c2 aq aaH aac)))
  (aA (J5 (fQ abM (au (c2 Ss aaH aav))) (aS (c2 aq (c2 aq aaJ abF) (cD (ag 0) (bq (ag 3)) bw))) bo)
  (aA (J5 (au (c2 G9 (c2 bx (ag 1) aag) aac)) (aS (c2 aq aaJ aaW)) bo)
  (aS (c2 aq (c2 aq aaJ (cD aaJ (bq aaX) bw)) aaW)))))
def ik(C:CC):Ex:=(c2 b_ (c2 b_ (ag 1) aaT) (c2 bx (c2 aq (c2 dj (ag 2) (cK (.int 97))) (c2 hR aav (ag 0))) aax))
def gW(C:CC):Sx:=
 (aA (aO 2 (cN fx (af (cN QF (eN [1,0] (fP (af (c2 b_ (cN cG (af aad (af aad (af aac (af aaf (af aae abw)))))) (c2 bx (c2 dj (ag 0) ab5) ab8)) ah)) dR (ik C))) ah)))
  (aS (c2 aq (cN aT (af (c2 b_ abS (c2 bx (ag 0) (cN bF (af abS ah)))) ah)) (ag 2))))
def fG(C:CC):Tx:=(gZ (au (c2 G9 aaj aad)) (au (c2 Ow abS aaI)))
def fM(C:CC):Ex:=(ag 0)
def eM(C:CC)(D:DD):Sx:=
 (aA (aO 5 (cN QF (eN [2] (iJ (c2 b_ (ag 2) abL)) (fG C) (fM C))))
  (aA (J5 (au (c2 G9 (ag 5) aaU)) (aS (cN aT (af aaA (af (cK (.str [110,111,110,101])) ah)))) bo)
  (aA (zK (Oz 3 (aE (w6 6) (aE (w6 7) (aE (w6 8) bW)))) (c2 b_ (ag 5) (c2 bx (ag 4) (cN bF aa2))))
  (aA (aO 9 (aZ (D .B_) (af (ag 0) (af (ag 1) (af (ag 2) (af (ag 7) ah))))))
  (aA (J5 (au (c2 Sv (ag 8) aas)) (aS (cN aT (af aak (af (ag 6) (af (ag 9) abI))))) bo)
  (aA (aO 10 (c2 bx (c2 dj (ag 4) aaz) abx))
  (aA (aO 11 (cN fx (af (cD (c2 b_ (ag 2) aaT) (bq (ag 10)) (bq (c2 aq (ag 10) (ag 8)))) ah)))
  (aS (cN aT (af aak (af (ag 6) (af (ag 9) (af (ag 11) (af (aZ (D .z7) (af (ag 0) (af (ag 1) (af (bn (C .K6) (af (ag 2) ab3)) aa1)))) ah))))))))))))))
def gL(C:CC)(D:DD):Ex:=(bn (C .I_) (af (aZ (D .K1) (af (ag 2) abd)) aap))
def gq(C:CC)(D:DD):Sx:=
 (aS (cN fx (af (cN QF (eN [2,0,1] (fP abd) dR (gL C D))) ah)))
def jm(C:CC):Sx:=
 (aA (aO 2 (cN oz aah))
  (aA (tQ (ag 2) aau (c2 aq (c2 b_ (ag 0) aau) (ag 1)))
  (aS (ZF (ag 2)))))
def gX(C:CC):Sx:=
 (aS (c2 Ss (c1 bZ (ag 0)) aaH))
def bT(C:CC)(D:DD):Sx:=(aO 2 (bn (C .D_) (af (ag 2) (af (aZ (D .o7) (af (ag 3) aap)) ah))))
def eD(C:CC)(D:DD):Sx:=
 (aA (aO 2 (cK (.tup kB)))
  (aA (gD abt (w6 3) (bT C D))
  (aS (ag 2))))
def cb(C:CC):Sx:=(J5 (au (c2 hG aaK (ag 1))) aa3 bo)
def bH(C:CC):Sx:=
 (aA (gD (iJ (bn (C .Mw) aah)) (w6 4) (cb C))
  (aA (J5 aa0 (aS (Ue (c2 hG aaj (ag 3)) (bn (C .o8) (af (ag 0) (af (c2 b_ (ag 3) aaj) ah))))) bo)
  (aA (J5 aaZ (aS (Ue (c2 Sv (ag 2) aas) (c2 Ow (cN bF abu) (ag 2)))) bo)
  (aS (cK (.bl false))))))
def bE(C:CC):Sx:=
 (aA (J5 aaY (aS (cN cG (af (cN aT (af aaI (af (cN aT abu) abJ))) ah))) bo)
  (aA (J5 abH (aS (cN cG (af (cN aT (af (cN aT abv) (af aaI abe))) (af (cN aT (af (cN aT abw) (af aaI abJ))) ah)))) bo)
  (aA (J5 (fQ aa0 (au (c2 dQ aaO aas))) (aS (cN cG (af (cN aT (af aaI abK)) ah))) bo)
  (aS aaU))))
def eT(C:CC):Sx:=
 (aS (cN aT (af (c2 aq aai aaB) (af (cN yv (af aaj (af aaN ah))) (af (c2 aq aaq (c2 b_ (ag 1) aaf)) (af (cN yv (af aar (af abn ah))) ah))))))
def aU(C:CC)(D:DD):Sx:=
 (aA (J5 aaY (aS (bn (C .v9) (af (aZ (D .g_) (af aar aap)) ah))) bo)
  (aA (J5 abH (aS (bn (C .v9) (af (aZ (D .g_) (af (c2 aq aaq aar) aap)) ah))) bo)
  (aA (J5 aa0 (aS (bn (C .v9) (af (aZ (D .m7) aaV) ah))) bo)
  (aA (J5 aaZ (aS (cN aT (af aac (af aac (af aac abw))))) bo)
  (aS (cN aT (af aac (af aac (af aad abv)))))))))
def cO(C:CC):Sx:=
 (aA (J5 (au (c2 G9 aai aaA)) (aS aaI) bo)
  (aA (J5 aaY (aS (cN aT abe)) bo)
  (aA (J5 aa0 (aS aaq) bo)
  (aA (J5 aaZ (aS aaj) bo)
  (aS (cN aT abu))))))
def bt(C:CC):Sx:=
 (aA (J5 (au (c2 Ow (cN bF abe) (cN bF (af (c2 b_ (ag 1) aaf) ah)))) aa3 bo)
  (aA (J5 (gZ (au (c2 Sv abn aas)) (au (c2 Sv aar aas))) (aS (Ue (c2 dQ abn aas) (c2 dQ aar aas))) bo)
  (aS (Ue (c2 Ow (cN bF abJ) abn) (bn (C .J3) abJ)))))
def du(C:CC):Sx:=
 (aA (aO 1 (wc (ki aaq) (c2 aq aar aac) aad))
  (aS (cN aT (af (c2 aq aai aac) (af (c2 aq aaj aac) (af aaq aap))))))
def bu(C:CC)(D:DD):Sx:=
 (aA (aO 2 (c2 b_ (ag 1) aaj))
  (aA (aO 3 aa9)
  (aA (J5 (gZ (au (c2 Sv aaO aas)) (au (c2 G9 (ag 3) aad))) (aS (cN aT (af aaL (af aaM (af aad abv))))) bo)
  (aA (aO 4 (aZ (D .g_) (af aaO aap)))
  (aA (aO 5 (wc (ki abQ) (c2 aq aaE (c2 b_ (ag 4) aae)) aad))
  (aS (cN aT (af (c2 aq aaL (c2 hR (ag 3) aaK)) (af (cN yv (af aaM (af (c2 aq aaE (c2 b_ (ag 4) aac)) ah))) (af (c2 hR (ag 3) abQ) aa2))))))))))
def FL:Nat→CC×DD×NN×DD
 |0=>(fun _ _=>.bad,fun _ _ _=>.bad,fun _ _=>.bad,fun _ _ _=>.bad)
 |k+1=>(fun f ps=>match f with
  |.law=>aW (uQ (FL k).1 (FL k).2.1) 1 8 ps
  |.Ms=>aW (gx (FL k).1) 1 8 ps
  |.v8=>aW (bX (FL k).1) 1 7 ps
  |.Mr=>aW (iH (FL k).1 (FL k).2.2.2) 1 3 ps
  |.J2=>aW (fY (FL k).1) 2 2 ps
  |.K_=>aW (cZ (FL k).1) 3 12 ps
  |.Nk=>aW (nE (FL k).1) 1 3 ps
  |.E_=>aW (fD (FL k).1) 3 6 ps
  |.G3=>aW (aR (FL k).1) 4 5 ps
  |.G5=>aW (fO (FL k).1) 1 4 ps
  |.j6=>aW (aF (FL k).1) 3 8 ps
  |.M7=>aW (gm (FL k).1) 3 5 ps
  |.k_=>aW (bJ (FL k).1) 3 7 ps
  |.J_=>aW (bP (FL k).1) 1 1 ps
  |.sized=>aW (nD (FL k).1 (FL k).2.1) 1 4 ps
  |.j8=>aW (eU (FL k).1) 3 3 ps
  |.i_=>aW (cA (FL k).1) 3 4 ps
  |.I_=>aW (gW (FL k).1) 2 3 ps
  |.K6=>aW (jm (FL k).1) 2 3 ps
  |.J3=>aW (gX (FL k).1) 1 1 ps
  |.v5=>aW (bE (FL k).1) 1 1 ps
  |.D_=>aW (eT (FL k).1) 2 2 ps
  |.Mw=>aW (cO (FL k).1) 1 1 ps
  |.o8=>aW (bt (FL k).1) 2 2 ps
  |.v9=>aW (du (FL k).1) 1 2 ps
  |_=>.bad,fun f ps h=>match f with
  |.p7=>eY (fN (FL k).1 (FL k).2.1) 3 13 ps h
  |.G4=>eY (uR (FL k).1 (FL k).2.1) 6 9 ps h
  |.K1=>eY (iI (FL k).1) 2 4 ps h
  |.z7=>eY (jY (FL k).1 (FL k).2.1) 4 4 ps h
  |.Oc=>eY (lY (FL k).1 (FL k).2.1) 2 3 ps h
  |.K8=>eY (fX (FL k).1 (FL k).2.1) 4 11 ps h
  |.K7=>eY (eM (FL k).1 (FL k).2.1) 5 12 ps h
  |.B_=>eY (gq (FL k).1 (FL k).2.1) 4 4 ps h
  |.g_=>eY (eD (FL k).1 (FL k).2.1) 2 4 ps h
  |.Mh=>eY (bH (FL k).1) 4 5 ps h
  |.o7=>eY (aU (FL k).1 (FL k).2.1) 2 2 ps h
  |.m7=>eY (bu (FL k).1 (FL k).2.1) 2 6 ps h
  |_=>.bad,fun f ps=>match f with
  |_=>.bad,fun f ps h=>match f with
  |.h_=>mR (cY (FL k).1 (FL k).2.2.2) 1 2 ps h
  |.j7=>mR (df (FL k).1 (FL k).2.2.2 (Nat.ble 2 k)) 1 5 ps h
  |.d8=>mR (de (FL k).1 (FL k).2.1 (FL k).2.2.2 (Nat.ble 2 k)) 5 9 ps h
  |_=>.bad)
abbrev X_(k:Nat):DD:=(FL k).2.2.2
abbrev F(k:Nat):CC:=(FL k).1
abbrev L(k:Nat):DD:=(FL k).2.1
abbrev M(k:Nat):NN:=(FL k).2.2.1
theorem JN{k:Nat}:∀(f:Fn) qs v,F k f qs=.ok v→qs.length=(ge f).length:=by
 cases k with
 |zero=>intro f qs v h;cases h
 |succ k=>intro f qs v h;cases f<;>first|exact zM qs v h|cases h
theorem JM{k:Nat}:∀(f:Fn) qs hs,L k f qs hs≠.bad→qs.length=(ge f).length:=by
 cases k with
 |zero=>intro f qs hs h;exact absurd rfl h
 |succ k=>intro f qs hs h;cases f<;>first|exact zL qs hs h|exact absurd rfl h
theorem JK{k:Nat}:∀(f:Fn) qs hs,X_ k f qs hs≠.bad→qs.length=(ge f).length:=by
 cases k with
 |zero=>intro f qs hs h;exact absurd rfl h
 |succ k=>intro f qs hs h;cases f with
  |h_=>exact nW (f:=cY (FL k).1 (FL k).2.2.2) (np:=1) (n:=2) qs hs h
  |j7=>exact nW (f:=df (FL k).1 (FL k).2.2.2 (Nat.ble 2 k)) (np:=1) (n:=5) qs hs h
  |d8=>exact nW (f:=de (FL k).1 (FL k).2.1 (FL k).2.2.2 (Nat.ble 2 k)) (np:=5) (n:=9) qs hs h
  |_=>exact absurd rfl h
theorem JL{k:Nat}:∀(f:Fn) qs v h',M k f qs=.ok v h'→qs.length=(ge f).length:=by
 cases k with
 |zero=>intro f qs v h' h;cases h
 |succ k=>intro f qs v h' h;cases f with
  |_=>cases h
set_option genInjectivity false in
set_option genSizeOf false in
structure Sys(K:W.Frag)(mg:Str→Option Value) where
 adr:Fn→Addr
 fd:Fn→FuncData
 Mt:Nat→Addr
 ok:∀f,Tn K (mx f) (ka f) (iq f) (adr f) (fd f)
 bi:∀f,fh K (fd f) (ge f) []
 m:∀f,rS f=true→mg (mx f)=some (.ref (adr f))
 n:∀i,mg (Gm i)=none
 NK:Value
 L_:mg "MOST_PUT_IN"=some NK
 O6:bB (.int 400) NK
 Mp:Value
 o9:mg "MOST_PUT_IN_DEPTH"=some Mp
 Nf:bB (.int 24) Mp
 Qh:Addr
 Nj:mg "NOTHING"=some (.ref Qh)
 Ni:EW K Qh kB
 PB:mg "FormError"=some (.ref (Mt 0))
 Q7:mg "BadWay"=some (.ref (Mt 1))
 PJ:mg "BadValues"=some (.ref (Mt 2))
 Pj:mg "TooMany"=some (.ref (Mt 3))
 Rn:mg "Clash"=some (.ref (Mt 4))
 QH:mg "BadText"=some (.ref (Mt 5))
 N8:mg "BadName"=some (.ref (Mt 6))
 QG:mg "Unclear"=some (.ref (Mt 7))
 Q6:mg "NoFill"=some (.ref (Mt 8))
 MN:W.excIn K (Mt 3) [.type "ValueError",.type "Exception",.type "BaseException",.type "object"] "ValueError.__new__"=true
 n8:W.exmOne K (.ref (Mt 3)) (.ref (Mt 0))=some true
 n_:W.exmOne K (.ref (Mt 6)) (.ref (Mt 0))=some true
 cg_:sU K
 QJ:wg K (Mt 3)
 Qz:pM K (Mt 3)
 QK:wg K (Mt 6)
 QB:pM K (Mt 6)
 u0:W.kitOne K (.ref (Mt 3)) (.ref (Mt 6))=some false
 t_:W.kitOne K (.ref (Mt 3)) (.ref (Mt 5))=some false
 m_:W.kitOne K (.ref (Mt 3)) (.ref (Mt 2))=some false
 z9:W.kitOne K (.ref (Mt 3)) (.ref (Mt 1))=some false
 G6:W.kitOne K (.ref (Mt 3)) (.ref (Mt 4))=some false
 z8:W.kitOne K (.ref (Mt 3)) (.ref (Mt 8))=some false
 q_:W.kitOne K (.ref (Mt 3)) (.ref (Mt 3))=some true
 p8:W.kitOne K (.ref (Mt 3)) (.ref (Mt 7))=some false
 j9:W.kitOne K (.ref (Mt 3)) (.type "ValueError")=some true
 u_:W.kitOne K (.ref (Mt 6)) (.ref (Mt 6))=some true
 u9:W.kitOne K (.ref (Mt 6)) (.ref (Mt 5))=some false
 n6:W.kitOne K (.ref (Mt 6)) (.ref (Mt 2))=some false
 A_:W.kitOne K (.ref (Mt 6)) (.ref (Mt 1))=some false
 G7:W.kitOne K (.ref (Mt 6)) (.ref (Mt 4))=some false
 z_:W.kitOne K (.ref (Mt 6)) (.ref (Mt 8))=some false
 u6:W.kitOne K (.ref (Mt 6)) (.ref (Mt 3))=some false
 u5:W.kitOne K (.ref (Mt 6)) (.ref (Mt 7))=some false
 j_:W.kitOne K (.ref (Mt 6)) (.type "ValueError")=some true
 N6:Ti K (Mt 6) (adr .d7) "at"
def Sys.tab{K:W.Frag}{mg:Str→Option Value}(Y:Sys K mg):Tab
 |0=>some (Y.Mt 0)
 |1=>some (Y.Mt 1)
 |2=>some (Y.Mt 2)
 |3=>some (Y.Mt 3)
 |4=>some (Y.Mt 4)
 |5=>some (Y.Mt 5)
 |6=>some (Y.Mt 6)
 |7=>some (Y.Mt 7)
 |8=>some (Y.Mt 8)
 |_=>none
section
variable(P:Program)(w:World){K:W.Frag}{mg:Str→Option Value}{base:Heap}
abbrev All(Y:Sys K mg)(base:Heap)(k:Nat):Prop:=∀f,dE P w K mg base Py k (Y.adr f) (Y.fd f) (ge f) (U5 K Y.tab (ge f).length (F k f))
abbrev ng(Y:Sys K mg)(base:Heap)(k:Nat):Prop:=∀f,dE P w K mg base Py k (Y.adr f) (Y.fd f) (ge f) (Sh K Y.tab (ge f).length (L k f))
abbrev pk(Y:Sys K mg)(base:Heap)(k:Nat):Prop:=∀f,dE P w K mg base (Qc P w) k (Y.adr f) (Y.fd f) (ge f) (Sh K Y.tab (ge f).length (X_ k f))
abbrev sV(Y:Sys K mg)(base:Heap)(k:Nat):Prop:=∀f,dE P w K mg base Py k (Y.adr f) (Y.fd f) (ge f) (Qa K Y.tab (ge f).length (M k f))
theorem lN(Y:Sys K mg):Cf K Y.tab Te T7 Tr:=by
 refine⟨Y.cg_,fun C a h ha=>?_,fun C a h ha=>?_,fun C D a b r h ha hb=>?_,fun C t a r h ha=>?_⟩
 ·unfold Te at h;split at h
  ·cases h
  ·cases h
  ·cases h
 ·unfold Te at h;split at h
  ·cases ha;exact⟨Y.Qz,Y.QJ⟩
  ·cases ha;exact⟨Y.QB,Y.QK⟩
  ·cases h
 ·refine qf (P:=fun C D r=>∀a b,Y.tab C=some a→Y.tab D=some b→W.kitOne K (.ref a) (.ref b)=some r) ?_ h a b ha hb;exact⟨fun _ _ ha hb=>(by cases ha;cases hb;exact Y.u0),⟨fun _ _ ha hb=>(by cases ha;cases hb;exact Y.t_),⟨fun _ _ ha hb=>(by cases ha;cases hb;exact Y.m_),⟨fun _ _ ha hb=>(by cases ha;cases hb;exact Y.z9),⟨fun _ _ ha hb=>(by cases ha;cases hb;exact Y.G6),⟨fun _ _ ha hb=>(by cases ha;cases hb;exact Y.z8),⟨fun _ _ ha hb=>(by cases ha;cases hb;exact Y.q_),⟨fun _ _ ha hb=>(by cases ha;cases hb;exact Y.p8),⟨fun _ _ ha hb=>(by cases ha;cases hb;exact Y.u_),⟨fun _ _ ha hb=>(by cases ha;cases hb;exact Y.u9),⟨fun _ _ ha hb=>(by cases ha;cases hb;exact Y.n6),⟨fun _ _ ha hb=>(by cases ha;cases hb;exact Y.A_),⟨fun _ _ ha hb=>(by cases ha;cases hb;exact Y.G7),⟨fun _ _ ha hb=>(by cases ha;cases hb;exact Y.z_),⟨fun _ _ ha hb=>(by cases ha;cases hb;exact Y.u6),⟨fun _ _ ha hb=>(by cases ha;cases hb;exact Y.u5),True.intro⟩⟩⟩⟩⟩⟩⟩⟩⟩⟩⟩⟩⟩⟩⟩⟩
 ·unfold Tr at h;split at h
  ·cases ha;cases h;exact Y.j9
  ·cases ha;cases h;exact Y.j_
  ·cases h
theorem mY(Y:Sys K mg):∀C Ca,im C=true→Y.tab C=some Ca→W.exmOne K (.ref Ca) (.ref (Y.Mt 0))=some true:=by
 intro C Ca h ha;unfold im at h;split at h
 ·cases ha;exact Y.n8
 ·cases ha;exact Y.n_
 ·cases h
theorem JG(Y:Sys K mg):∀C Ca,AQ C=true→Y.tab C=some Ca→∃fI,Ti K Ca fI "at":=by
 intro C Ca h ha;unfold AQ at h;split at h
 ·cases ha;exact⟨_,Y.N6⟩
 ·cases h
theorem sc:∀f,gY (oB f) (ge f) (aP (iq f)):=fun f=>by cases f<;>exact⟨rfl,rfl,rfl,by decide+kernel,rfl,by decide+kernel,by decide+kernel⟩
section
variable{X:Cx}{T:Tab}{Ew:XK}{e a b:Expr}{es:List Expr}{f g:Ex}{fs:Ax}{pos p0:Pos}
theorem rst{x:Str}{l:List Nat}{j pos}(e:x=S l:=by kernel_rfl):RE X T Ew (.Constant (.str x) j pos) (cK (.str l)):=FC l e
theorem ra1(ha:RE X T Ew e f)(hs:starEach [e] X.env=(false,eval e X.env)::starEach [] X.env:=by rfl):RA X T Ew [e] (af f ah):=aC ha mq hs
theorem rdi{keys:List (Option Expr)}{values:List Expr}{fs:List (Ex×Ex)}(h:Xe X T Ew pos keys values fs)(R8:keys.all (·.isSome)=true:=by rfl)(hl:keys.length=values.length:=by rfl)(h0:keys≠ []:=by intro z;cases z)(Wa:keys.length≤15:=by decide)(Zc:fs.length=keys.length:=by rfl):RE X T Ew (.Dict keys values pos) (uO fs):=CI h R8 hl h0 Wa Zc
def ZC(P:Program)(w:World)(K:W.Frag)(mg:Str→Option Value)(base:Heap)(A:Around)(T:Tab)(x:Str)(fn:List PV→Out):Prop:=∃k f fd ps,dE P w K mg base Py k f fd ps (U5 K T ps.length fn)∧(∀qs v,fn qs=.ok v→qs.length=ps.length)∧cX k A∧mg x=some (.ref f)∧W.keepIn K (.ref f)=true∧fh K fd ps []
theorem zc{x:Str}{fn:List PV→Out}(c:ZC X.prog X.w X.K X.mg X.base X.A T x fn)(hg:Gl X x)(ha:RA X T Ew (e::es) fs)(O1:nD0 x:=by decide)(he:sE0 X e es:=by rfl)(Ng:sP0 X es pos:=by rfl):RE X T Ew (.Call (.Name x p0) (e::es) [] pos) (bn fn fs):=by obtain⟨k,f,fd,ps,G,l,hr,m,kp,bi⟩:=c;exact CJ G l hr hg m kp bi ha O1 he Ng
def ZL(P:Program)(w:World)(K:W.Frag)(mg:Str→Option Value)(base:Heap)(A:Around)(T:Tab)(x:Str)(fn:List PV→List PO→Res PV):Prop:=∃k f fd ps,dE P w K mg base Py k f fd ps (Sh K T ps.length fn)∧(∀qs hs,fn qs hs≠.bad→qs.length=ps.length)∧cX k A∧mg x=some (.ref f)∧W.keepIn K (.ref f)=true∧fh K fd ps []
theorem Vh{x:Str}{fn:List PV→List PO→Res PV}(c:ZL X.prog X.w X.K X.mg X.base X.A T x fn)(hg:Gl X x)(ha:RA X T Ew (e::es) fs)(O1:nD0 x:=by decide)(he:sE0 X e es:=by rfl)(Ng:sP0 X es pos:=by rfl):RE X T Ew (.Call (.Name x p0) (e::es) [] pos) (aZ fn fs):=by obtain⟨k,f,fd,ps,G,l,hr,m,kp,bi⟩:=c;exact zW G l hr hg m kp bi ha O1 he Ng
def ZG(P:Program)(w:World)(K:W.Frag)(mg:Str→Option Value)(base:Heap)(A:Around)(T:Tab)(x:Str)(fn:List PV→List PO→Res PV):Prop:=∃k f fd ps,dE P w K mg base (Qc P w) k f fd ps (Sh K T ps.length fn)∧(∀qs hs,fn qs hs≠.bad→qs.length=ps.length)∧cX k A∧mg x=some (.ref f)∧W.keepIn K (.ref f)=true∧fh K fd ps []
theorem Xl{x:Str}{fn:List PV→List PO→Res PV}(c:ZG X.prog X.w X.K X.mg X.base X.A T x fn)(hp:fE (Qc X.prog X.w) X Ew)(hg:Gl X x)(ha:RA X T Ew (e::es) fs)(O1:nD0 x:=by decide)(he:sE0 X e es:=by rfl)(Ng:sP0 X es pos:=by rfl):RE X T Ew (.Call (.Name x p0) (e::es) [] pos) (aZ fn fs):=by obtain⟨k,f,fd,ps,G,l,hr,m,kp,bi⟩:=c;exact ua G l hp hr hg m kp bi ha O1 he Ng
theorem ww{k:Nat}{A:Around}(Y:Sys K mg)(G:pk P w Y base k)(hr:cX k A)(f:Fn)(hp:rS f=true):ZG P w K mg base A Y.tab (mx f) (X_ k f):=⟨_,_,_,_,G f,JK f,hr,Y.m f hp,(Y.ok f).kp,Y.bi f⟩
def ZN(P:Program)(w:World)(K:W.Frag)(mg:Str→Option Value)(base:Heap)(A:Around)(T:Tab)(x:Str)(fn:List PV→Res PV):Prop:=∃k f fd ps,dE P w K mg base Py k f fd ps (Qa K T ps.length fn)∧(∀qs v h',fn qs=.ok v h'→qs.length=ps.length)∧cX k A∧mg x=some (.ref f)∧W.keepIn K (.ref f)=true∧fh K fd ps []
theorem Z8{x:Str}{n:String}(hm:X.mg x=none)(hg:Gl X x:=by rfl)(hv:bootBuiltins x=some (.type n):=by decide+kernel)(hn:x≠"__name__":=by decide)(hd:nD0 x:=by decide):RE X T Ew (.Name x pos) (cK (.ty n)):=FA hg hm hv hn hd
theorem zis{p1:Pos}{x:Str}{n:String}(hi:X.mg "isinstance"=none)(hm:X.mg x=none)(ha:RE X T Ew e f)(hg:Gl X "isinstance":=by rfl)(h1:Gl X x:=by rfl)(hv:bootBuiltins x=some (.type n):=by decide+kernel)(hn:x≠"__name__":=by decide)(hd:nD0 x:=by decide)(he:starEach [e,.Name x p1] X.env=(false,eval e X.env)::starEach [.Name x p1] X.env:=by rfl)(h2:starEach [.Name x p1] X.env=(false,eval (.Name x p1) X.env)::starEach [] X.env:=by rfl)(Ng:(backTo pos (starEach [.Name x p1] X.env)).any (·.1)=false:=by rfl):RE X T Ew (.Call (.Name "isinstance" p0) [e,.Name x p1] [] pos) (cN gU (af f (af (cK (.ty n)) ah))):=yj hg hi (aC ha (aC (Z8 hm h1 hv hn hd) mq h2) he) he Ng
theorem zl(hm:X.mg "len"=none)(ha:RE X T Ew e f)(hg:Gl X "len":=by rfl)(he:starEach [e] X.env=(false,eval e X.env)::starEach [] X.env:=by rfl)(Ng:(backTo pos (starEach [] X.env)).any (·.1)=false:=by rfl):RE X T Ew (.Call (.Name "len" p0) [e] [] pos) (cN bF (af f ah)):=FG hg hm (ra1 ha he) he Ng
theorem req(hu:X.A.units+64<cLine)(ha:RE X T Ew a f)(hb:RE X T Ew b g)(hm:behindInMarks .Eq b=false:=by exact dg _):RE X T Ew (.Compare a [.Eq] [b] pos) (c2 G9 f g):=kI (AK hu) xg ha hb hm
theorem Yp(hu:X.A.units+64<cLine)(ha:RE X T Ew a f)(hb:RE X T Ew b g)(hm:behindInMarks .Eq b=false:=by exact dg _):RT X T Ew (.Compare a [.Eq] [b] pos) (au (c2 G9 f g)):=dy (AK hu) xg ha hb hm
theorem iB{i:Nat}{x:Str}{pos':Pos}(hN:X.N.Nodup)(ha:RE X T Ew a f)(hi:X.N[i]? =some x:=by rfl)(hx:Loc X.env.scope x:=by first|exact .inl rfl|exact .inr rfl)(hs:swapsWith a (some (.Name x pos')) pos.line X.env=pure false:=by rfl)(hf:X.fn x=true∨X.env.scope.names.lookup x=some .local:=by first|exact .inl rfl|exact .inr rfl):RS X T Ew (.Assign [.Name x pos'] a pos) (aO i f):=Fw hN hi hx ha hs hf
theorem Ch{k:Nat}{A:Around}(Y:Sys K mg)(G:All P w Y base k)(hr:cX k A)(f:Fn)(hp:rS f=true):ZC P w K mg base A Y.tab (mx f) (F k f):=⟨_,_,_,_,G f,JN f,hr,Y.m f hp,(Y.ok f).kp,Y.bi f⟩
theorem wv{k:Nat}{A:Around}(Y:Sys K mg)(G:ng P w Y base k)(hr:cX k A)(f:Fn)(hp:rS f=true):ZL P w K mg base A Y.tab (mx f) (L k f):=⟨_,_,_,_,G f,JM f,hr,Y.m f hp,(Y.ok f).kp,Y.bi f⟩
theorem Hb{k:Nat}{A:Around}(Y:Sys K mg)(G:sV P w Y base k)(hr:cX k A)(f:Fn)(hp:rS f=true):ZN P w K mg base A Y.tab (mx f) (M k f):=⟨_,_,_,_,G f,JL f,hr,Y.m f hp,(Y.ok f).kp,Y.bi f⟩
theorem zr(ha:RE X T Ew e f):RL X T Ew [.Return (some e) pos] (aS f):=cR (Fx ha)
end
theorem nF(Y:Sys K mg):dE P w K mg base Py 1 (Y.adr .d7) (Y.fd .d7) (ge .d7) (vp K "at"):=Bw (Y.ok .d7) (sc .d7) rfl fun _ _ _ _ _ _=>wY (CS (pv 0) (pv 1) rfl)
def bO(k:Nat):Fn→Sx
 |.law=>uQ (F k) (L k)
 |.Ms=>gx (F k)
 |.v8=>bX (F k)
 |.J2=>fY (F k)
 |.K_=>cZ (F k)
 |.G4=>uR (F k) (L k)
 |.K1=>iI (F k)
 |.z7=>jY (F k) (L k)
 |.Oc=>lY (F k) (L k)
 |.Nk=>nE (F k)
 |.E_=>fD (F k)
 |.G3=>aR (F k)
 |.G5=>fO (F k)
 |.j6=>aF (F k)
 |.M7=>gm (F k)
 |.k_=>bJ (F k)
 |.K8=>fX (F k) (L k)
 |.J_=>bP (F k)
 |.sized=>nD (F k) (L k)
 |.j8=>eU (F k)
 |.i_=>cA (F k)
 |.I_=>gW (F k)
 |.K7=>eM (F k) (L k)
 |.B_=>gq (F k) (L k)
 |.K6=>jm (F k)
 |.J3=>gX (F k)
 |.g_=>eD (F k) (L k)
 |.Mh=>bH (F k)
 |.v5=>bE (F k)
 |.D_=>eT (F k)
 |.o7=>aU (F k) (L k)
 |.Mw=>cO (F k)
 |.o8=>bt (F k)
 |.v9=>du (F k)
 |.m7=>bu (F k) (L k)
 |_=>bo
def iZ:Fn→Bool
 |.p7=>false
 |.Mr=>false
 |.h_=>false
 |.j7=>false
 |.d8=>false
 |.d7=>false
 |_=>true
theorem ck{N:List Str}{Tv scope:Scope}{g8:List Nat}{x:Str}{M:List Str}(_:M=x::g8.map fun i=>N.getD i "")(h:sH N Tv scope g8 x M=true):eX N Tv scope g8 x M:=eX.of h
def RX(Y:Sys K mg)(base:Heap)(k:Nat)(f:Fn)(b:Sx):Prop:=∀(Mg:Value)(A:Around)(outer:List Env)(s:Shared)(H:Hp)(E:XK)(fa:Addr),cX k (A.deeper (envOfC (ka f) (aP (iq f)) s.heap.objs.size fa Mg))→RL (jH (Qc P w) P w K mg base (oB f) (ka f) (aP (iq f)) fa Mg A outer s H E) Y.tab E (dD (iq f)) b
def RR(Y:Sys K mg)(base:Heap)(k:Nat)(f:Fn)(b:Sx):Prop:=∀(Mg:Value)(A:Around)(outer:List Env)(s:Shared)(H:Hp)(E:XK)(fa:Addr),cX k (A.deeper (envOfC (ka f) (aP (iq f)) s.heap.objs.size fa Mg))→RL (jH Py P w K mg base (oB f) (ka f) (aP (iq f)) fa Mg A outer s H E).U7 Y.tab (fun _ _ _=>False) (dD (iq f)) b
theorem qV(Y:Sys K mg){k:Nat}(G:All P w Y base k)(GL:ng P w Y base k)(GG:pk P w Y base k):RX P w Y base k .h_ (cY (F k) (X_ k)):=fun Mg A outer s H E f hr=>by have hu:=hr.units;have hN:=(sc .h_).nd;have n:=Y.n;have c:=Ch P w Y G hr;have d:=wv P w Y GL hr;have zx:=ww P w Y GG hr;have hp:fE (Qc P w) (jH (Qc P w) P w K mg base (oB .h_) (ka .h_) (aP (iq .h_)) f Mg A outer s H E) E:=jR.passes fun _ _ _ h=>h;exact(aX (jM (Xl (zx .j7 rfl) hp rfl (ra1 (rv 0))))
  (aX (iB hN (zc (c .sized rfl) rfl (ra1 (rv 0))))
  (aX (lv (RW.rt (nV (dy uj eR (dA hu (rv 1) aQ) (tY rfl Y.L_ Y.O6) (dg _)) (nU (dy uj eR (dA hu (rv 1) aQ) (tY rfl Y.o9 Y.Nf) (dg _))))) (cR (zN PySem.F.excBase_ValueError (by decide+kernel) PySem.F.excBase_ValueError Y.MN rfl rfl Y.Pj jR (ra1 rst))) gl)
  (zr (dA hu (dA hu (rv 0) (zS aQ)) aQ)))))
theorem pC(Y:Sys K mg){k:Nat}(G:All P w Y base k)(GL:ng P w Y base k)(GG:pk P w Y base k):RX P w Y base k .j7 (df (F k) (X_ k) (Nat.ble 2 k)):=fun Mg A outer s H E f hr=>by have hu:=hr.units;have hN:=(sc .j7).nd;have n:=Y.n;have c:=Ch P w Y G hr;have d:=wv P w Y GL hr;have zx:=ww P w Y GG hr;have hp:fE (Qc P w) (jH (Qc P w) P w K mg base (oB .j7) (ka .j7) (aP (iq .j7)) f Mg A outer s H E) E:=jR.passes fun _ _ _ h=>h;exact(aX (iB hN wP)
  (cR (nX (by with_unfolding_all exact PassesOwn.leaving) rfl (qZ rfl (n .enumerate) (ra1 (rv 0))) (vt (jr (gR hN rfl (Or.inl rfl)) (jr (gR hN rfl (Or.inl rfl)) rc))) (aX (iB hN (req hu (rv 2) (rh (zl (n .len) (rv 0)) aQ)))
  (aX (lv (RW.rt (nV (dy (rG hu) nw (dA hu (rv 3) aQ) (rv 1) (by with_unfolding_all rfl)) (nV (mh (zc (c .J3 rfl) rfl (ra1 (dA hu (rv 3) aQ)))) (nU (RW.rt (qX (mh (rv 4)) (qW (dy rE kJ (dA hu (rv 3) aQ) vv (dg _))))))))) (cR (pS (nF P w Y) Y.N6 (Y.bi .d7) hr rfl rfl Y.N8 jR (ra1 (kF (ra1 (rv 2)))))) gl)
  (aX (jM (Xl (zx .d8 rfl) hp rfl (aC (dA hu (rv 3) aQ) (aC (kF (ra1 (rv 2))) (aC (dA hu (rv 3) aQ) (aC (dA hu (rv 3) aQ) (ra1 (rv 1))))))))
  (cR (wK hu (rv 1) (dA hu (rv 3) aQ) (rv 3)))))))))
theorem pB(Y:Sys K mg){k:Nat}(G:All P w Y base k)(GL:ng P w Y base k)(GG:pk P w Y base k):RX P w Y base k .d8 (de (F k) (L k) (X_ k) (Nat.ble 2 k)):=fun Mg A outer s H E f hr=>by have hu:=hr.units;have hN:=(sc .d8).nd;have n:=Y.n;have c:=Ch P w Y G hr;have d:=wv P w Y GL hr;have zx:=ww P w Y GG hr;have hp:fE (Qc P w) (jH (Qc P w) P w K mg base (oB .d8) (ka .d8) (aP (iq .d8)) f Mg A outer s H E) E:=jR.passes fun _ _ _ h=>h;exact(cR (nX (by with_unfolding_all exact PassesOwn.leaving) rfl (qZ rfl (n .enumerate) (ra1 (rv 0))) (vt (jr (gR hN rfl (Or.inl rfl)) (jr (gR hN rfl (Or.inl rfl)) rc))) (aX (iB hN (fK (rv 1) (kF (ra1 (rv 5)))))
  (aX (lv (mh (Vh (d .Mh rfl) rfl (aC (rv 6) (aC (rv 2) (aC (rv 3) (ra1 (rv 4))))))) (cR (pS (nF P w Y) Y.N6 (Y.bi .d7) hr rfl rfl Y.N8 jR (ra1 (rv 7)))) gl)
  (cR (nX (by with_unfolding_all exact PassesOwn.leaving) rfl (zP (zc (c .v5 rfl) rfl (ra1 (rv 6)))) (gR hN rfl (Or.inl rfl)) (cR (jM (Xl (zx .d8 rfl) hp rfl (aC (dA hu (rv 8) aQ) (aC (fK (rv 7) (dA hu (rv 8) aQ)) (aC (fK (rv 2) (dA hu (rv 8) aQ)) (aC (rv 3) (ra1 (rv 4)))))))))))))))
theorem fg(Y:Sys K mg){k:Nat}{f:Fn}{b:Sx}(h:RX P w Y base k f b):dE P w K mg base (Qc P w) (k+1) (Y.adr f) (Y.fd f) (ge f) (Sh K Y.tab (ge f).length (mR b (ge f).length (oB f).length)):=Bx (Y.ok f) (sc f) fun Mg A outer s H E hr=>h Mg A outer s H E _ hr
theorem fp(Y:Sys K mg){k:Nat}{f:Fn}{b:Sx}(h:RR P w Y base k f b):dE P w K mg base Py (k+1) (Y.adr f) (Y.fd f) (ge f) (U5 K Y.tab (ge f).length (aW b (ge f).length (oB f).length)):=DI (Y.ok f) (sc f) fun Mg A outer s H E hr=>h Mg A outer s H E _ hr
theorem fl(Y:Sys K mg){k:Nat}{f:Fn}{b:Sx}(h:RR P w Y base k f b):dE P w K mg base Py (k+1) (Y.adr f) (Y.fd f) (ge f) (Sh K Y.tab (ge f).length (eY b (ge f).length (oB f).length)):=DJ (Y.ok f) (sc f) fun Mg A outer s H E hr=>h Mg A outer s H E _ hr
section
variable(Y:Sys K mg){k:Nat}(G:All P w Y base k)(GL:ng P w Y base k)(GN:sV P w Y base k)(GG:pk P w Y base k)
include G GL GN GG
theorem rz{f:Fn}{b:Sx}(h:∀(Mg:Value)(A:Around)(outer:List Env)(s:Shared)(H:Hp)(E:XK)(fa:Addr),cX k (A.deeper (envOfC (ka f) (aP (iq f)) s.heap.objs.size fa Mg))→(A.deeper (envOfC (ka f) (aP (iq f)) s.heap.objs.size fa Mg)).units+64<cLine→(oB f).Nodup→(∀i,mg (Gm i)=none)→(∀(g:Fn),rS g=true→ZC P w K mg base (A.deeper (envOfC (ka f) (aP (iq f)) s.heap.objs.size fa Mg)) Y.tab (mx g) (F k g))→(∀(g:Fn),rS g=true→ZL P w K mg base (A.deeper (envOfC (ka f) (aP (iq f)) s.heap.objs.size fa Mg)) Y.tab (mx g) (L k g))→(∀(g:Fn),rS g=true→ZN P w K mg base (A.deeper (envOfC (ka f) (aP (iq f)) s.heap.objs.size fa Mg)) Y.tab (mx g) (M k g))→(∀(g:Fn),rS g=true→ZG P w K mg base (A.deeper (envOfC (ka f) (aP (iq f)) s.heap.objs.size fa Mg)) Y.tab (mx g) (X_ k g))→RL (jH Py P w K mg base (oB f) (ka f) (aP (iq f)) fa Mg A outer s H E).U7 Y.tab (fun _ _ _=>False) (dD (iq f)) b):RR P w Y base k f b:=fun Mg A outer s H E fa hr=>h Mg A outer s H E fa hr hr.units (sc f).nd Y.n (Ch P w Y G hr) (wv P w Y GL hr) (Hb P w Y GN hr) (ww P w Y GG hr)
theorem pD:RR P w Y base k .p7 (fN (F k) (L k)):=rz P w Y G GL GN GG fun _ _ _ _ _ _ _ hr hu hN n c d m zx=>(aX (iB hN (rj mq))
  (aX (iB hN (rj mq))
  (aX (iB hN (dA hu (iT (aC aQ (aC aQ (aC aQ (aC aQ (aC aQ (aC aQ (aC aQ (ra1 aQ))))))))) (jt (iV (Vh (d .K1 rfl) rfl (aC (rv 0) (ra1 (rv 1)))) aQ) aQ)))
  (aX (nX PassesOwn.never rfl (mn rfl (n .range) (ra1 (rv 5))) (gR hN rfl (Or.inl rfl)) (aX (iB hN (Vh (d .K1 rfl) rfl (aC (rv 0) (ra1 (rv 1)))))
  (aX (iB hN (nZ rfl (n .tuple) (ra1 (gS (M:=["_law_j","_law_menu","_law_n"]) _ rfl (eX.of (by kernel_rfl)) (mn rfl (n .range) (ra1 (jt (rv 7) aQ))) (fun _ _ _ _ _=>rf) (fun _ _ _ _ _=>(dA hu (rv 1) (jt (fK (iV (rv 2) aQ) (rv 0)) aQ)))))))
  (aX (iB hN vv)
  (aX (lv (RW.rt (qX (dy uj eR (jt (iV (rv 7) aQ) aQ) aQ (dg _)) (qW (dy AI eR (rv 6) (rh (rv 5) aQ) (dg _))))) (cR (iB hN (jt (iV (rv 7) aQ) aQ))) gl)
  (aX (iB hN (rdi (lC rst (rv 8) (lC rst (wQ rfl (n .list) (ra1 (rv 4))) (lC rst (rv 9) (lC rst (rv 2) CB))))))
  (aX (tR (rv 1) aQ (rh (fK (dA hu (rv 1) aQ) aQ) (zT aQ (rn rfl (n .int) (ra1 (kI uj eR (rv 5) aQ (dg _)))))))
  (aX (iB hN (Vh (d .z7 rfl) rfl (aC (rv 0) (aC (rv 1) (aC (rv 10) (ra1 aQ))))))
  (aX (lv (RW.rt (nV (Yp hu (rv 11) (kF mq)) (nU (Yp hu (jt (iV (rv 7) aQ) aQ) aQ)))) (cR (iB hN (fK (rv 11) (Vh (d .z7 rfl) rfl (aC (rv 0) (aC (rv 1) (aC (rv 10) (ra1 aQ)))))))) gl)
  (aX (iB hN (dA hu (rv 2) (jt (fK (iV (rv 7) aQ) (rv 6)) aQ)))
  (aX (lv (dy (rG hu) nw (rv 12) (tZ (M:=["_law_piece"]) (j:=4) _ rfl (eX.of (by kernel_rfl)) (fun _ _ _ _ _=>rf) (fun _ _ _ _ _=>(dA hu (rv 0) aQ)) Bk (by unfold eC;exact EC EB (Bl _) (Iq _))) (by with_unfolding_all rfl)) (cR (iB hN (dA hu (iT (aC rst (aC rst (aC rst (aC rst (aC rst (aC rst (aC rst (ra1 rst))))))))) (rv 6)))) gl)
  (aX (lv (dy (rG hu) nw (rv 12) (tZ (M:=["_law_piece"]) (j:=4) _ rfl (eX.of (by kernel_rfl)) (fun _ _ _ _ _=>rf) (fun _ _ _ _ _=>(dA hu (rv 0) aQ)) Bk (by unfold eA;exact EC EB (Bl _) (Iq _))) (by with_unfolding_all rfl)) (cR (iB hN (fK (rv 12) rst))) gl)
  (aX (jM (pV nL PySem.F.plainAttrs_list PySem.F.slot_list_append PySem.F.type_list_append mB ju (rv 3) (ra1 (Vh (d .Oc rfl) rfl (aC (rv 3) (ra1 (kF (aC rst (aC (rv 12) (aC (rv 8) (aC (rv 9) (ra1 (zc (c .Nk rfl) rfl (ra1 (rv 11)))))))))))))))
  (cR (jM (pV nL PySem.F.plainAttrs_list PySem.F.slot_list_append PySem.F.type_list_append mB ju (rv 4) (ra1 (kF (aC (rv 12) (aC (zl (n .len) (rv 8)) (ra1 (rv 9))))))))))))))))))))))
  (zr (nZ rfl (n .tuple) (ra1 (rv 3))))))))
theorem zY:RR P w Y base k .Mr (iH (F k) (X_ k)):=rz P w Y G GL GN GG fun _ _ _ _ _ _ _ hr hu hN n c d m zx=>(cR (Fv (mY Y) (fun pn W Eb hp=>(zr (iT (ra1 (Xl (zx .h_ rfl) hp rfl (ra1 (rv 0))))))) (fun pn a=>(aX (iB hN (iT (aC (iU (lN Y) rfl (n .isinstance) (aC (rv 1) (ra1 (fS rfl Y.N8 rfl)))) (aC (iU (lN Y) rfl (n .isinstance) (aC (rv 1) (ra1 (fS rfl Y.Pj rfl)))) (aC (iU (lN Y) rfl (n .isinstance) (aC (rv 1) (ra1 (fS rfl Y.QH rfl)))) (ra1 (iU (lN Y) rfl (n .isinstance) (aC (rv 1) (ra1 (fS rfl Y.Q7 rfl))))))))))
  (aX (iB hN (fK (rv 2) (iT (aC (iU (lN Y) rfl (n .isinstance) (aC (rv 1) (ra1 (fS rfl Y.PJ rfl)))) (aC (iU (lN Y) rfl (n .isinstance) (aC (rv 1) (ra1 (fS rfl Y.QG rfl)))) (aC (iU (lN Y) rfl (n .isinstance) (aC (rv 1) (ra1 (fS rfl Y.Q6 rfl)))) (ra1 (iU (lN Y) rfl (n .isinstance) (aC (rv 1) (ra1 (fS rfl Y.Rn rfl)))))))))))
  (aX (lv (RW.rt (nV (dy (vG hu) rA (pV nL PySem.F.plainAttrs_list PySem.F.slot_list_count PySem.F.type_list_count yG uf (rv 2) (ra1 El)) aQ (dg _)) (nU (Fu (mh (iU (lN Y) rfl (n .isinstance) (aC (rv 1) (ra1 (Z8 (n .ValueError)))))))))) (zr (iT (ra1 rst))) gl)
  (zr (tX (mh (dA hu (rv 2) aQ)) (iT (aC rst (ra1 (HB (JG Y) (rv 1))))) (iT (aC rst (ra1 (rn rfl (n .int) (ra1 (dA hu (rv 2) aQ)))))))))))) hN rfl rfl rfl Y.PB))
theorem rr:∀f,iZ f=true→RR P w Y base k f (bO k f):=fun f hf=>by
 cases f<;>cases hf<;>exact rz P w Y G GL GN GG fun _ _ _ _ _ _ _ hr hu hN n c d m zx=>by
  unfold bO
  (repeat' first
   |exact rv _
   |exact aQ
   |refine aC ?_ ?_
   |refine dA hu ?_ ?_
   |refine ra1 ?_
   |refine aX ?_ ?_
   |exact rst
   |refine zr ?_
   |refine kF ?_
   |refine fK ?_ ?_
   |refine lv ?_ ?_ ?_
   |refine iB hN ?_
   |exact gl
   |refine Yp hu ?_ ?_
   |refine jt ?_ ?_
   |refine cR ?_
   |refine CF ?_
   |refine yh ?_ ?_ ?_
   |refine zc (c _ rfl) rfl ?_
   |exact CG
   |exact vv
   |refine iT ?_
   |refine zl (n .len) ?_
   |refine iV ?_ ?_
   |exact gR hN rfl (Or.inl rfl)
   |exact mq
   |refine Vh (d _ rfl) rfl ?_
   |refine jr ?_ ?_
   |refine zT ?_ ?_
   |refine zP ?_
   |refine nV ?_ ?_
   |refine qX ?_ ?_
   |refine nX PassesOwn.never rfl ?_ ?_ ?_
   |refine jM ?_
   |refine nU ?_
   |refine FE ?_
   |refine qW ?_
   |refine dy AI eR ?_ ?_ (dg _)
   |refine dy (vG hu) rA ?_ ?_ (dg _)
   |refine dy AJ xf ?_ ?_ (dg _)
   |refine rj ?_
   |refine zS ?_
   |refine rh ?_ ?_
   |refine Hz ?_ ?_
   |exact rc
   |refine vt ?_
   |exact El
   |refine mn rfl (n .range) ?_
   |exact rf
   |refine pV nL PySem.F.plainAttrs_list PySem.F.slot_list_append PySem.F.type_list_append mB ju ?_ ?_
   |refine tR ?_ ?_ ?_
   |refine Fz ?_
   |refine dy rE kJ ?_ ?_ (dg _)
   |refine dy uj eR ?_ ?_ (dg _)
   |refine nZ rfl (n .tuple) ?_
   |refine req hu ?_ ?_
   |refine vw rfl (n .len) rfl (n .set) ?_
   |refine dy (rG hu) nw ?_ ?_ (by with_unfolding_all rfl)
   |refine qZ rfl (n .enumerate) ?_
   |refine tX ?_ ?_ ?_
   |refine kI (vG hu) rA ?_ ?_ (dg _)
   |refine kI rE kJ ?_ ?_ (dg _)
   |refine pV Ff PySem.F.plainAttrs_str PySem.F.slot_str_join PySem.F.type_str_join Dr ym ?_ ?_
   |refine mh ?_
   |refine Fy ?_ ?_
   |refine CH ?_ ?_
   |refine CK ?_ ?_
   |refine FF rfl (n .max) ?_
   |refine zis (n .isinstance) (n .tuple) ?_
   |refine FH ?_ ?_
   |refine dy (qb hu) oq ?_ ?_ (by with_unfolding_all rfl)
   |refine kI AJ xf ?_ ?_ (dg _)
   |refine kI AI eR ?_ ?_ (dg _)
   |refine wQ rfl (n .list) ?_
   |refine wK hu ?_ ?_ ?_
   |exact gR hN rfl (Or.inr rfl)
   |refine rn rfl (n .int) ?_
   |refine tS (M:=["_law_j","_law_some","_law_n","_law_k"]) _ rfl (ck (by rfl) (by kernel_rfl)) ?_ (fun _ _ _ _ _=>?_) (fun _ _ _ _ _=>?_) (iy:=6) hN rfl rfl (by with_unfolding_all rfl)
   |refine gS (M:=["_law_name","_law_told_here"]) _ rfl (ck (by rfl) (by kernel_rfl)) ?_ (fun _ _ _ _ _=>?_) (fun _ _ _ _ _=>?_)
   |refine iR (M:=["_law_other"]) _ rfl (ck (by rfl) (by kernel_rfl)) ?_ (fun _ _ _ _ _=>?_) (fun _ _ _ _ _=>?_) (iy:=3) hN rfl rfl (by with_unfolding_all rfl)
   |refine FD ?_ ?_
   |refine iR (M:=["_law_one_here"]) _ rfl (ck (by rfl) (by kernel_rfl)) ?_ (fun _ _ _ _ _=>?_) (fun _ _ _ _ _=>?_) (iy:=9) hN rfl rfl (by with_unfolding_all rfl)
   |exact CA
   |refine gS (M:=["_law_one_here"]) _ rfl (ck (by rfl) (by kernel_rfl)) ?_ (fun _ _ _ _ _=>?_) (fun _ _ _ _ _=>?_)
   |refine pV nL PySem.F.plainAttrs_list PySem.F.slot_list_index PySem.F.type_list_index yF ue ?_ ?_
   |refine gS (M:=["_law_k","_law_cells","_law_spot","_law_at","_law_deep"]) _ rfl (ck (by rfl) (by kernel_rfl)) ?_ (fun _ _ _ _ _=>?_) (fun _ _ _ _ _=>?_)
   |refine dy Ib eR ?_ ?_ (dg _)
   |refine gS (M:=["_law_node"]) _ rfl (ck (by rfl) (by kernel_rfl)) ?_ (fun _ _ _ _ _=>?_) (fun _ _ _ _ _=>?_)
   |refine gS (M:=["_law_path","_law_names_here"]) _ rfl (ck (by rfl) (by kernel_rfl)) ?_ (fun _ _ _ _ _=>?_) (fun _ _ _ _ _=>?_)
   |refine iR (M:=["_law_piece","_law_node"]) _ rfl (ck (by rfl) (by kernel_rfl)) ?_ (fun _ _ _ _ _=>?_) (fun _ _ _ _ _=>?_) (iy:=4) hN rfl rfl (by with_unfolding_all rfl)
   |exact wP
   |refine gS (M:=["_law_k","_law_at","_law_n"]) _ rfl (ck (by rfl) (by kernel_rfl)) ?_ (fun _ _ _ _ _=>?_) (fun _ _ _ _ _=>?_)
   |refine iR (M:=["_law_piece","_law_at"]) _ rfl (ck (by rfl) (by kernel_rfl)) ?_ (fun _ _ _ _ _=>?_) (fun _ _ _ _ _=>?_) (iy:=5) hN rfl rfl (by with_unfolding_all rfl)
   |refine gS (M:=["_law_k","_law_at","_law_cells","_law_spot"]) _ rfl (ck (by rfl) (by kernel_rfl)) ?_ (fun _ _ _ _ _=>?_) (fun _ _ _ _ _=>?_)
   |refine zV rfl (n .dict) ?_
   |refine HA ?_
   |exact zU rfl Y.Nj Y.Ni
   |refine kI (qb hu) oq ?_ ?_ (by with_unfolding_all rfl)
   |refine RW.rt (qX ?_ ?_)
   |refine RW.rt (nV ?_ ?_))
end
theorem DW(Y:Sys K mg):All P w Y base 0:=fun f=>⟨fun vs H Q E h=>(by obtain⟨_,_,_,_,_,_,e,_⟩:=h;cases e),fun A outer s H args us vs Q E _ _ _ _ h=>(by obtain⟨_,_,_,_,_,_,e,_⟩:=h;cases e)⟩
theorem nlL(Y:Sys K mg){k:Nat}{ad:Addr}{fd:FuncData}{ps:List Str}{n:Nat}:dE P w K mg base Py k ad fd ps (Sh K Y.tab n fun _ _=>.bad):=⟨fun vs H Q E h=>by obtain⟨_,_,_,_,_,_,_,e⟩:=h;exact e.elim,fun A outer s H args us vs Q E _ _ _ _ h=>by obtain⟨_,_,_,_,_,_,_,e⟩:=h;exact e.elim⟩
theorem nlN(Y:Sys K mg){k:Nat}{ad:Addr}{fd:FuncData}{ps:List Str}{n:Nat}:dE P w K mg base Py k ad fd ps (Qa K Y.tab n fun _=>.bad):=⟨fun vs H Q E h=>by obtain⟨_,_,_,_,_,e⟩:=h;exact e.elim,fun A outer s H args us vs Q E _ _ _ _ h=>by obtain⟨_,_,_,_,_,e⟩:=h;exact e.elim⟩
theorem BW(Y:Sys K mg):sV P w Y base 0:=fun f=>nlN P w Y
theorem BX(Y:Sys K mg):ng P w Y base 0:=fun f=>nlL P w Y
theorem BV(Y:Sys K mg){k:Nat}(G:All P w Y base k)(GL:ng P w Y base k)(GN:sV P w Y base k)(GG:pk P w Y base k):All P w Y base (k+1):=fun f=>by
  cases f<;>first
   |exact fp P w Y (rr P w Y G GL GN GG _ rfl)
   |exact fp P w Y (zY P w Y G GL GN GG)
   |exact⟨fun vs H Q E h=>(by obtain⟨_,_,_,_,_,_,e,_⟩:=h;cases e),fun A outer s H args us vs Q E _ _ _ _ h=>(by obtain⟨_,_,_,_,_,_,e,_⟩:=h;cases e)⟩
theorem ze(Y:Sys K mg){k:Nat}(G:All P w Y base k)(GL:ng P w Y base k)(GN:sV P w Y base k)(GG:pk P w Y base k):ng P w Y base (k+1):=fun f=>by
  cases f<;>first
   |exact fl P w Y (rr P w Y G GL GN GG _ rfl)
   |exact fl P w Y (pD P w Y G GL GN GG)
   |exact nlL P w Y
theorem zd(Y:Sys K mg){k:Nat}(G:All P w Y base k)(GL:ng P w Y base k)(GN:sV P w Y base k)(GG:pk P w Y base k):sV P w Y base (k+1):=fun f=>by
  cases f with
  |_=>exact nlN P w Y
theorem nlG(Y:Sys K mg){k:Nat}{ad:Addr}{fd:FuncData}{ps:List Str}{n:Nat}:dE P w K mg base (Qc P w) k ad fd ps (Sh K Y.tab n fun _ _=>.bad):=⟨fun vs H Q E h=>by obtain⟨_,_,_,_,_,_,_,e⟩:=h;exact e.elim,fun A outer s H args us vs Q E _ _ _ _ h=>by obtain⟨_,_,_,_,_,_,_,e⟩:=h;exact e.elim⟩
theorem zf(Y:Sys K mg){k:Nat}(G:All P w Y base k)(GL:ng P w Y base k)(GN:sV P w Y base k)(GG:pk P w Y base k):pk P w Y base (k+1):=fun f=>by
  cases f with
  |h_=>exact fg P w Y (qV P w Y G GL GG)
  |j7=>exact fg P w Y (pC P w Y G GL GG)
  |d8=>exact fg P w Y (pB P w Y G GL GG)
  |_=>exact nlG P w Y
theorem xP(Y:Sys K mg):∀k,All P w Y base k∧ng P w Y base k∧sV P w Y base k∧pk P w Y base k
 |0=>⟨DW P w Y,BX P w Y,BW P w Y,fun f=>nlG P w Y⟩
 |k+1=>by obtain⟨a,b,c,d⟩:=xP Y k;exact⟨BV P w Y a b c d,ze P w Y a b c d,zd P w Y a b c d,zf P w Y a b c d⟩
theorem oX(Y:Sys K mg)(k:Nat):All P w Y base k:=(xP P w Y k).1
end
def ZS(K:W.Frag)(C:Nat→Addr):Fn→Addr→Prop
 |.d7,a=>W.findIn K (.ref (C 6)) "__init__"=some (some (.ref a))∧W.isFn K (.ref a)=true∧W.keepIn K (.ref a)=true
 |f,a=>W.nsIn K mainGlobals (mx f)=some (some (.ref a))
theorem us0{us:List Value}(h:us.length=0):us= []:=List.eq_nil_of_length_eq_zero h
theorem Vk{n:Nat}{us:List Value}(h:us.length=n+1):∃a r,us=a::r∧r.length=n:=by
 cases us with
 |nil=>cases h
 |cons a r=>exact⟨a,r,rfl,by simpa using h⟩
theorem us1{us:List Value}(h:us.length=1):∃a,us= [a]:=by obtain⟨a,r,rfl,z⟩:=Vk h;obtain rfl:=us0 z;exact⟨a,rfl⟩
theorem us2{us:List Value}(h:us.length=2):∃a b,us= [a,b]:=by obtain⟨a,r,rfl,z⟩:=Vk h;obtain⟨b,rfl⟩:=us1 z;exact⟨a,b,rfl⟩
theorem us3{us:List Value}(h:us.length=3):∃a b c,us= [a,b,c]:=by obtain⟨a,r,rfl,z⟩:=Vk h;obtain⟨b,c,rfl⟩:=us2 z;exact⟨a,b,c,rfl⟩
theorem us4{us:List Value}(h:us.length=4):∃a b c d,us= [a,b,c,d]:=by obtain⟨a,r,rfl,z⟩:=Vk h;obtain⟨b,c,d,rfl⟩:=us3 z;exact⟨a,b,c,d,rfl⟩
theorem us5{us:List Value}(h:us.length=5):∃a b c d e,us= [a,b,c,d,e]:=by obtain⟨a,r,rfl,z⟩:=Vk h;obtain⟨b,c,d,e,rfl⟩:=us4 z;exact⟨a,b,c,d,e,rfl⟩
theorem us6{us:List Value}(h:us.length=6):∃a b c d e f,us= [a,b,c,d,e,f]:=by obtain⟨a,r,rfl,z⟩:=Vk h;obtain⟨b,c,d,e,f,rfl⟩:=us5 z;exact⟨a,b,c,d,e,f,rfl⟩
theorem us7{us:List Value}(h:us.length=7):∃a b c d e f g,us= [a,b,c,d,e,f,g]:=by obtain⟨a,r,rfl,z⟩:=Vk h;obtain⟨b,c,d,e,f,g,rfl⟩:=us6 z;exact⟨a,b,c,d,e,f,g,rfl⟩
theorem fq{K:W.Frag}{Ad:Addr→Prop}{nm ql:Str}{st:Stmt}{ps:List Str}{f:Addr}{od an:Option Addr}{sl:Array (Option Value)}{oc kV dc pm cd ct:Value}(a:Ad f)(l:K.lookup f=some ⟨oc,od,.func (W.fnOf nm ql (jV st) (dD st) (aP st) .none kV dc pm an cd ct),sl⟩)(c:W.codeIn K cd ql=true)(k:W.keepIn K (.ref f)=true)(b:∀(kV doc pm:Value)(an:Option Addr)(Mg ct:Value)(us:List Value),us.length=ps.length→bindArgs (W.fnOf nm ql (jV st) (dD st) (aP st) .none kV doc pm an Mg ct) ⟨us,[]⟩=pure (ps.zip us)):∃a fd,Ad a∧Tn K nm ql st a fd∧fh K fd ps []:=⟨f,_,a,Bt l c k,(Bt l c k).binds b⟩
theorem GP{l:W.OpenLaw}{w:World}{K:W.Frag}{h:Heap}{mg:Str→Option Value}{fa:Addr}(Y8:∀ns:List Int,ns.length≤63→F 140 .law [.O7 (ns.map PV.int)]=.ok (.bl true))(X:K.In h)(G:h.Ns mainGlobals mg)(hfa:mg "law"=some (.ref fa))
  {Nx:Addr}
  {P_:Addr}
  {Ny:Addr}
  {j5:Addr}
  {Qy:Addr}
  {OJ:Addr}
  {d9:Addr}
  {OD:Addr}
  {PX:Addr}
  {O5:Tok}
  {Nb:Tok}
  {Qk:Addr} {SX:Nat} {RP:Array (Option Value)} {RV:Option Addr} {Qo:Tok} {Qn:Tok} {Qm:Tok} {Ql:Tok}
  (N_:W.nsIn K mainGlobals "FormError"=some (some (.ref Nx)))
  (Qj:W.nsIn K mainGlobals "BadWay"=some (some (.ref P_)))
  (Oa:W.nsIn K mainGlobals "BadValues"=some (some (.ref Ny)))
  (Pr:W.nsIn K mainGlobals "TooMany"=some (some (.ref j5)))
  (QS:W.nsIn K mainGlobals "Clash"=some (some (.ref Qy)))
  (Pu:W.nsIn K mainGlobals "BadText"=some (some (.ref OJ)))
  (Px:W.nsIn K mainGlobals "BadName"=some (some (.ref d9)))
  (Pq:W.nsIn K mainGlobals "Unclear"=some (some (.ref OD)))
  (Qi:W.nsIn K mainGlobals "NoFill"=some (some (.ref PX)))
  (X6:W.specialIn K (.builtin "object.__class__") "__get__"=some (some (.builtin "getset_descriptor.__get__")))
  (ZD:W.takesIn K (.builtin "object.__class__")=some true)
  (Ou:W.findIn K (.ref j5) "__class__"=some (some (.builtin "object.__class__")))
  (Oq:W.mroIn K j5 (.type "object")=some true)
  (Om:(W.clsIn K j5).isSome=true)
  (Ov:W.findIn K (.ref d9) "__class__"=some (some (.builtin "object.__class__")))
  (Ot:W.mroIn K d9 (.type "object")=some true)
  (Oo:(W.clsIn K d9).isSome=true)
  (u0:W.kitOne K (.ref j5) (.ref d9)=some false)
  (t_:W.kitOne K (.ref j5) (.ref OJ)=some false)
  (m_:W.kitOne K (.ref j5) (.ref Ny)=some false)
  (z9:W.kitOne K (.ref j5) (.ref P_)=some false)
  (G6:W.kitOne K (.ref j5) (.ref Qy)=some false)
  (z8:W.kitOne K (.ref j5) (.ref PX)=some false)
  (q_:W.kitOne K (.ref j5) (.ref j5)=some true)
  (p8:W.kitOne K (.ref j5) (.ref OD)=some false)
  (j9:W.kitOne K (.ref j5) (.type "ValueError")=some true)
  (u_:W.kitOne K (.ref d9) (.ref d9)=some true)
  (u9:W.kitOne K (.ref d9) (.ref OJ)=some false)
  (n6:W.kitOne K (.ref d9) (.ref Ny)=some false)
  (A_:W.kitOne K (.ref d9) (.ref P_)=some false)
  (G7:W.kitOne K (.ref d9) (.ref Qy)=some false)
  (z_:W.kitOne K (.ref d9) (.ref PX)=some false)
  (u6:W.kitOne K (.ref d9) (.ref j5)=some false)
  (u5:W.kitOne K (.ref d9) (.ref OD)=some false)
  (j_:W.kitOne K (.ref d9) (.type "ValueError")=some true)
  (Nv:W.findIn K (.ref d9) "__getattribute__"=some (some (.builtin "BaseException.__getattribute__")))
  (Nu:W.findIn K (.ref d9) "__getattr__"=some none)
  (Nr:W.mroIn K d9 (.type "BaseException")=some true)
  (Oj:W.findIn K (.ref j5) "__getattribute__"=some (some (.builtin "BaseException.__getattribute__")))
  (Oi:W.findIn K (.ref j5) "__getattr__"=some none)
  (Oh:W.mroIn K j5 (.type "BaseException")=some true)
  (MN:W.excIn K j5 [.type "ValueError",.type "Exception",.type "BaseException",.type "object"] "ValueError.__new__"=true)
  (n8:W.exmOne K (.ref j5) (.ref Nx)=some true)
  (n_:W.exmOne K (.ref d9) (.ref Nx)=some true)
  (Pg:wz K d9 [.type "ValueError",.type "Exception",.type "BaseException",.type "object"] "ValueError.__new__"=true)
  (Pb:W.keepIn K (.ref d9)=true)
  (Pa:Fd K d9=true)
  (O_:W.findIn K (.ref d9) "__setattr__"=some (some (.builtin "object.__setattr__")))
  (O9:W.findIn K (.ref d9) "at"=some none)
  (O8:W.hasDictIn K d9=true)
  (hf:∀f:Fn,∃a fd,ZS K (fun i=>match i with|6=>d9|_=>0) f a∧Tn K (mx f) (ka f) (iq f) a fd∧fh K fd (ge f) [])
  (L_:W.nsIn K mainGlobals "MOST_PUT_IN"=some (some (.int 400 O5)))
  (o9:W.nsIn K mainGlobals "MOST_PUT_IN_DEPTH"=some (some (.int 24 Nb)))
  (Nj:W.nsIn K mainGlobals "NOTHING"=some (some (.ref Qk)))
  (Ni:K.lookup Qk=some ⟨.type "tuple",RV,.seq #[.int 0 Qo,.int 0 Qn,.int 0 Qm,.int 0 Ql] SX,RP⟩)
  (hn:∀i:Nt,W.nsIn K mainGlobals (Gm i)=some none):
  ∃fd:FuncData,(∀(s:Shared)(v:Value),BindsTo s fd ⟨[v],[]⟩ [("_law_script",v)])∧∀base:Heap,K.In base→base.Ns mainGlobals mg→dE l.prog w K mg base Py 140 fa fd ["_law_script"] (wG K):=by
 let Y:Sys K mg:={
  adr:=fun f=>(hf f).choose
  fd:=fun f=>(hf f).choose_spec.choose
  ok:=fun f=>(hf f).choose_spec.choose_spec.2.1
  bi:=fun f=>(hf f).choose_spec.choose_spec.2.2
  m:=fun f hp=>W.mg_of X G (by have q:=(hf f).choose_spec.choose_spec.1;cases f<;>first|exact q|cases hp)
  n:=fun i=>W.mg_none_of X G (hn i)
  Mt:=fun i=>match i with|0=>Nx|1=>P_|2=>Ny|3=>j5|4=>Qy|5=>OJ|6=>d9|7=>OD|8=>PX|_=>0
  PB:=W.mg_of X G N_
  Q7:=W.mg_of X G Qj
  PJ:=W.mg_of X G Oa
  Pj:=W.mg_of X G Pr
  Rn:=W.mg_of X G QS
  QH:=W.mg_of X G Pu
  N8:=W.mg_of X G Px
  QG:=W.mg_of X G Pq
  Q6:=W.mg_of X G Qi
  MN:=MN
  n8:=n8
  n_:=n_
  cg_:=⟨X6,ZD⟩
  QJ:=⟨Ou,Oq,Om⟩
  Qz:=⟨Oj,Oi,Oh⟩
  QK:=⟨Ov,Ot,Oo⟩
  QB:=⟨Nv,Nu,Nr⟩
  u0:=u0
  t_:=t_
  m_:=m_
  z9:=z9
  G6:=G6
  z8:=z8
  q_:=q_
  p8:=p8
  j9:=j9
  u_:=u_
  u9:=u9
  n6:=n6
  A_:=A_
  G7:=G7
  z_:=z_
  u6:=u6
  u5:=u5
  j_:=j_
  N6:=⟨Pg,(hf .d7).choose_spec.choose_spec.1.1,(hf .d7).choose_spec.choose_spec.1.2.1,Pb,Pa,O_,O9,O8,⟨Nv,Nu,Nr⟩⟩
  NK:=_
  L_:=W.mg_of X G L_
  O6:=⟨O5,by rfl⟩
  Mp:=_
  o9:=W.mg_of X G o9
  Nf:=⟨Nb,by rfl⟩
  Qh:=Qk
  Nj:=W.mg_of X G Nj
  Ni:=⟨_,_,_,[.int 0,.int 0,.int 0,.int 0],Ni,rfl,rfl,by show 4≤sizeLine;decide,(.cons ⟨Qo,rfl⟩ (.cons ⟨Qn,rfl⟩ (.cons ⟨Qm,rfl⟩ (.cons ⟨Ql,rfl⟩ .nil)))),fun _ _ _=>(.cons (.int _) (.cons (.int _) (.cons (.int _) (.cons (.int _) .nil))))⟩ }
 have e:=(Y.m .law rfl).symm.trans hfa;obtain rfl:Y.adr .law=fa:=by injection e with e1;injection e1
 exact⟨Y.fd .law,fun s v=>by obtain⟨_,_,_,_,_,_,_,_,_,e,_⟩:=(Y.ok .law).ex;rw[e];exact .of_eq rfl,fun base _ _=>(oX l.prog w Y 140 .law).imp (ya Y8)⟩
end K9
namespace L3
open PySem L2
section
variable(ρ:Ev)(h:List PO)
@[simp] theorem GF(i:Nat):ag i ρ h=match ρ[i]? with|some (some p)=>.ok (aj h p) h|_=>.bad:=rfl
theorem LY(v:PV):cK v ρ h=.ok v h:=rfl
theorem KA:ah ρ h=.ok [] h:=rfl
theorem IE:bw ρ h=.ok none h:=rfl
theorem Jk:bo ρ h=.nx ρ h:=rfl
@[simp] theorem cj(f g:Sx):aA f g ρ h=match f ρ h with|.nx ρ1 h1=>g ρ1 h1|.rt v h1=>.rt v h1|.bk ρ1 h1=>.bk ρ1 h1|.ct ρ1 h1=>.ct ρ1 h1|.exc v h1=>.exc v h1|.bad=>.bad:=rfl
theorem ID:zJ ρ h=.rt .non h:=rfl
@[simp] theorem vV(t:Tx)(f g:Sx):J5 t f g ρ h=uS (t ρ h) fun b h1=>if b=true then f ρ h1 else g ρ h1:=rfl
theorem KB(i:Nat)(p:PV):w6 i p ρ=some (ρ.set i (some p)):=rfl
end
section
variable(h:List PO)
theorem KJ(i:Int):aj h (.int i)=.int i:=rfl
theorem LL(i:Bool):aj h (.bl i)=.bl i:=rfl
theorem KG(i:List Nat):aj h (.str i)=.str i:=rfl
theorem KH:aj h .non=.non:=rfl
theorem KD(i:List PV):aj h (.tup i)=.tup i:=rfl
theorem KI(i:List PV):aj h (.lst i)=.lst i:=rfl
theorem KK(i:List PV):aj h (.O7 i)= .O7 i:=rfl
theorem Jl(xs:List PV)(r:List PO):aj (.lst xs::r) (.ref 0)=.ref 0:=rfl
@[simp] theorem GS(a b:List PV):vF (.lst a) (.lst b) h=if a.length+b.length≤sizeLine then .ok (.lst (a++b)) h else .bad:=rfl
theorem JB(i j:Int):kK (.int i) (.int j) h=.ok (.int (i - j)) h:=rfl
theorem JH(i j:Int):hR (.int i) (.int j) h=if hZ i j=true then .ok (.int (i * j)) h else .bad:=rfl
theorem Lg(C:Int→Int→Bool)(g:Int→Int→Int)(i j:Int):pI C g (.int i) (.int j) h=if C i j=true then .ok (.int (g i j)) h else .bad:=rfl
theorem Lh(i:Int):mT (.int i) h=.ok (.int (-i)) h:=rfl
theorem KM(g:Int→Int→Bool)(i j:Int):yz g (.int i) (.int j) h=.ok (.bl (g i j)) h:=rfl
theorem LW(p:PV):Sv p .non h=.ok (.bl (gJ p)) h:=rfl
theorem Ji(p:PV):dQ p .non h=.ok (.bl (!gJ p)) h:=rfl
theorem LG(l:List Nat)(i:Int):b_ (.str l) (.int i) h=match Np l i with|some c=>if l.length≤sizeLine then .ok (.str [c]) h else .bad|none=>.bad:=rfl
@[simp] theorem ux(l:List PV)(i:Int):b_ (.tup l) (.int i) h=match Np l i with|some v=>.ok (aj h v) h|none=>.bad:=rfl
@[simp] theorem uy(l:List PV)(i:Int):b_ (.lst l) (.int i) h=match Np l i with|some v=>.ok (aj h v) h|none=>.bad:=rfl
@[simp] theorem Iu(l:List PV)(i:Int):b_ (.O7 l) (.int i) h=match Np l i with|some v=>.ok (aj h v) h|none=>.bad:=rfl
theorem qj(l:List PV):bF [.tup l] h=.ok (.int l.length) h:=rfl
theorem Be(l:List PV):bF [.lst l] h=.ok (.int l.length) h:=rfl
@[simp] theorem EA(l:List PV):bF [.O7 l] h=.ok (.int l.length) h:=rfl
theorem JJ(ps:List PV):cG ps h=if ps.length≤sizeLine then .ok (.lst ps) h else .bad:=rfl
theorem IU(ps:List PV):eZ ps h=if ps.length≤sizeLine then .ok (.ref h.length) (h++ [.lst ps])else .bad:=rfl
theorem Jo(ps:List PV):aT ps h=if ps.length≤sizeLine then .ok (.tup ps) h else .bad:=rfl
theorem JF(ps:List PV):QF ps h=.ok (.lst ps) h:=rfl
theorem IT(ps:List PV):Do ps h=.ok (.ref h.length) (h++ [.lst ps]):=rfl
theorem LI(b:Bool):yw [.bl b] h=.ok (.int (if b then 1 else 0)) h:=rfl
theorem IR(l:List PV):jq (.tup l) h=.ok l h:=rfl
theorem IS(l:List PV):jq (.lst l) h=.ok l h:=rfl
theorem Jj(x:List Nat):qt h (.str x)=true:=rfl
theorem Kz(i:Bool):ij h (.bl i)=some (.bl i,h):=by simp[ij,PV.pure]
theorem Lb(b:Bool):kA h (.bl b)=some b:=rfl
theorem La(b:Int):kA h (.int b)=some (b !=0):=rfl
end
theorem szl:(sizeLine:Nat)=16777216:=by decide
theorem zb(fn:List PV→Out)(ps:List PV)(h:List PO):bj fn ps h=match MP ps h with|some (qs,h2)=>(match fn qs with|.ok v=>.ok v h2|.bad=>.bad)|none=>.bad:=rfl
theorem oG{i j:Int}(h:QM 18446744073709551616 j=true):hZ i j=true:=by unfold hZ;rw[h,Bool.true_or,Bool.or_true]
theorem Gp{i j:Int}(h:Ih i j=true):hZ i j=true:=by unfold hZ;rw[h,Bool.or_true,Bool.or_true]
theorem Go{i j:Int}(h:QM 18446744073709551616 i=true):hZ i j=true:=by unfold hZ;rw[h,Bool.true_or]
theorem vE(a b:List Nat)(h:List PO)(ha:∀c∈a,c<1114112)(hb:∀c∈b,c<1114112):G9 (.str a) (.str b) h=.ok (.bl (decide (a=b))) h:=by
 have ok:∀l:List Nat,(∀c∈l,c<1114112)→Oe h (.str l)=true:=by intro l hl;unfold Oe O2;simp only[toD,PyData.canLay0,PyData.depth];simp[PyData.strOk,S];exact hl
 unfold G9;rw[if_pos ⟨ok a ha,ok b hb⟩]
 have e:PyData.eqv (O2 h (.str a)) (O2 h (.str b))=decide (a=b):=by
  show PyData.eqv (toD (.str a)) (toD (.str b))=_;simp only[toD,PyData.eqv]
  by_cases q:a=b
  ·subst q;simp
  ·have:¬ S a=S b:=fun z=>q (xR z);simp[q,this]
 rw[e]
theorem BT{α:Type}{xs:List α}{i:Int}(d:α)(h0:0≤i)(h1:i<(xs.length:Int)):Np xs i=some (xs.getD i.toNat d):=by refine dJ h0 ?_;rw[List.getD_eq_getElem?_getD,List.getElem?_eq_getElem (by omega)];rfl
theorem jB{α:Type}{xs:List α}{n:Nat}{d:α}(h:n<xs.length):xs.getD n d∈xs:=by rw[List.getD_eq_getElem?_getD,List.getElem?_eq_getElem h];exact List.getElem_mem h
theorem qp:∀ls:List (List Nat),kx [] ls=ls.flatten
 |[]=>rfl
 |[x]=>by simp[kx]
 |x::y::r=>by show x++ []++kx [] (y::r)=_;rw[qp (y::r),List.append_nil];rfl
theorem AG{sep:List Nat}{q:PV}{ls:List (List Nat)}{h:List L3.PO}(e:Ro h q=some (ls.map PV.str))(hz:(ls.map (fun l=>l.length)).sum+ls.length * sep.length≤16777216):lI (.str sep) [q] h=.ok (.str (kx sep ls)) h:=by unfold lI;simp only[e,xY,hz,if_true]
theorem Dg{ls:List (List Nat)}{h:List L3.PO}(hz:(ls.map (fun l=>l.length)).sum≤16777216):lI (.str []) [.lst (ls.map PV.str)] h=.ok (.str ls.flatten) h:=by rw[AG (ls:=ls) rfl (by simpa using hz),qp]
theorem GO(xs:List PV)(r:List L3.PO)(p:PV):bV (.ref 0) [p] (.lst xs::r)=if xs.length<sizeLine then .ok .non (.lst (xs++ [p])::r)else .bad:=rfl
theorem GA(xs:List PV)(r:List L3.PO):dU (.lst xs::r) (.ref 0)=true:=rfl
theorem AH(a b:Int)(h:List L3.PO):G9 (.int a) (.int b) h=.ok (.bl (decide (a=b))) h:=by
 have ok:∀l:Int,Oe h (.int l)=true:=fun l=>by unfold Oe O2;simp[toD,PyData.canLay0,PyData.depth]
 unfold G9;rw[if_pos ⟨ok a,ok b⟩]
 have e:PyData.eqv (O2 h (.int a)) (O2 h (.int b))=decide (a=b):=by
  show PyData.eqv (toD (.int a)) (toD (.int b))=_;simp only[toD,PyData.eqv]
  by_cases q:a=b<;>simp[q]
 rw[e]
theorem hJ(a b:Int)(h:List L3.PO):Ow (.int a) (.int b) h=.ok (.bl (!decide (a=b))) h:=by
 have ok:∀l:Int,Oe h (.int l)=true:=fun l=>by unfold Oe O2;simp[toD,PyData.canLay0,PyData.depth]
 unfold Ow;rw[if_pos ⟨ok a,ok b⟩]
 have e:PyData.eqv (O2 h (.int a)) (O2 h (.int b))=decide (a=b):=by
  show PyData.eqv (toD (.int a)) (toD (.int b))=_;simp only[toD,PyData.eqv]
  by_cases q:a=b<;>simp[q]
 rw[e]
theorem Ge(a b:List Nat)(h:List L3.PO)(ha:∀c∈a,c<1114112)(hb:∀c∈b,c<1114112):Ow (.str a) (.str b) h=.ok (.bl (!decide (a=b))) h:=by
 have e:=vE a b h ha hb;unfold G9 at e;unfold Ow
 split at e
 ·rename_i hc;rw[if_pos hc];injection e with e1 e2
  injection e1 with e1
  rw[e1]
 ·cases e
variable{m:Nat}{raw Xy:List Nat}
open PySem.NumText (digitsVal AllDigits)
section
variable(h:List L3.PO)(ρ:Ev)
theorem IQ(xs:List PV):fx [.lst xs] h=.ok (.tup xs) h:=rfl
end
theorem oA{l:List Nat}(h:List L3.PO)(hl:∀c∈l,c<1114112):Oe h (.str l)=true:=by unfold Oe O2;simp only[toD,PyData.canLay0,PyData.depth];simp[PyData.strOk,S];exact hl
theorem GH(a b:List Nat)(ha:∀c∈a,c<1114112)(hb:∀c∈b,c<1114112):PyData.eqv (toD (.str a)) (toD (.str b))=decide (a=b):=by
 have:=vE a b [] ha hb;unfold G9 at this;rw[if_pos ⟨oA [] ha,oA [] hb⟩]at this;injection this with this
 injection this
theorem sO{x:List Nat}(hx:∀c∈x,c<1114112):∀{ls:List (List Nat)},(∀l∈ls,∀c∈l,c<1114112)→((ls.map PV.str).any fun y=>PyData.eqv (toD y) (toD (.str x)))=decide (x∈ls)
 |[],_=>rfl
 |l::r,h=>by rw[List.map_cons,List.any_cons,GH l x (h l (by simp)) hx,sO hx fun z hz=>h z (List.mem_cons_of_mem _ hz),Bool.eq_iff_iff,Bool.or_eq_true,decide_eq_true_eq,decide_eq_true_eq,decide_eq_true_eq,List.mem_cons];exact or_congr eq_comm Iff.rfl
theorem oX:∀{ls:List (List Nat)},(∀l∈ls,∀c∈l,c<1114112)→(ls.map PV.str).all (Oe [])=true
 |[],_=>rfl
 |l::r,h=>by rw[List.map_cons,List.all_cons,oA [] (h l (by simp)),oX fun z hz=>h z (List.mem_cons_of_mem _ hz)];rfl
theorem EM{x:List Nat}{ls:List (List Nat)}(hx:∀c∈x,c<1114112)(hl:∀l∈ls,∀c∈l,c<1114112)(h:List L3.PO):yx (.str x) (.tup (ls.map PV.str)) h=some (decide (x∈ls)):=by show(if Oe [] (.str x)=true∧(ls.map PV.str).all (Oe [])=true then some ((ls.map PV.str).any fun y=>PyData.eqv (toD y) (toD (.str x)))else none)=_;rw[if_pos ⟨oA [] hx,oX hl⟩,sO hx hl]
theorem Ix{x:List Nat}{ls:List (List Nat)}(hx:∀c∈x,c<1114112)(hl:∀l∈ls,∀c∈l,c<1114112)(h:List L3.PO):yx (.str x) (.lst (ls.map PV.str)) h=some (decide (x∈ls)):=by show(if Oe [] (.str x)=true∧(ls.map PV.str).all (Oe [])=true then some ((ls.map PV.str).any fun y=>PyData.eqv (toD y) (toD (.str x)))else none)=_;rw[if_pos ⟨oA [] hx,oX hl⟩,sO hx hl]
theorem Iw{x:List Nat}{ls:List (List Nat)}(hx:∀c∈x,c<1114112)(hl:∀l∈ls,∀c∈l,c<1114112)(h:List L3.PO):Rz (.str x) (.tup (ls.map PV.str)) h=.ok (.bl (decide (x∈ls))) h:=by unfold Rz;rw[EM hx hl]
theorem Ey{x:List Nat}{ls:List (List Nat)}(hx:∀c∈x,c<1114112)(hl:∀l∈ls,∀c∈l,c<1114112)(h:List L3.PO):hG (.str x) (.tup (ls.map PV.str)) h=.ok (.bl (!decide (x∈ls))) h:=by unfold hG;rw[EM hx hl]
theorem Dy{x:List Nat}{ls:List (List Nat)}(hx:∀c∈x,c<1114112)(hl:∀l∈ls,∀c∈l,c<1114112)(h:List L3.PO):Rz (.str x) (.lst (ls.map PV.str)) h=.ok (.bl (decide (x∈ls))) h:=by unfold Rz;rw[Ix hx hl]
section
variable(ρ:Ev)(h:List PO)
theorem xB(cat:Nat→Bool)(g:Sx)(i n:Nat)(gs:Sx):Cz cat g i n gs ρ h=match g ρ h with
 |.exc e h1=>match BG e with
  |some (C,p)=>if cat C=true then(match gs ((List.replicate n none).set i (some p)) h1 with
   |.rt v h2=>.rt v h2
   |_=>.bad)else .bad
  |none=>.bad
 |r=>r:=rfl
theorem jf(z:Bool)(C:Nat)(as:Ax)(hz:z=true):iQ z C as ρ h=vy C (as ρ h):=by unfold iQ;rw[if_pos hz]
theorem GY(C:Nat)(v:PV):vy C (.ok [v] h)=.exc (.Og C v) h:=rfl
theorem Ha(C:Nat)(as:Ax):qU C as ρ h=match as ρ h with
 |.ok qs h1=>if qs.length≤sizeLine then .exc (.cls C) h1 else .bad
 |.exc e h1=>.exc e h1
 |.bad=>.bad:=rfl
end
section
variable(ρ:Ev)(h:List PO)
theorem Jn(i j:Int):aq (.int i) (.int j) h=.ok (.int (i+j)) h:=rfl
theorem Jm(a b:List Nat):aq (.str a) (.str b) h=if a.length+b.length≤sizeLine then .ok (.str (a++b)) h else .bad:=rfl
theorem LK(l:List (PK×PV))(r:List PO):aj (.dct l::r) (.ref 0)=.ref 0:=rfl
theorem iE{p:PV}(hp:p.pure=true):ij h p=some (p,h):=by cases p<;>first|(simp[PV.pure]at hp;done)|simp[ij,hp]
theorem lR{p:PV}(hp:p.pure=true):aj h p=p:=by cases p<;>first|(simp[PV.pure]at hp;done)|rfl
theorem JD(v:PV)(l:List (PK×PV))(r:List PO)(x:List Nat):wI v (.ref 0) (.str x) ρ (.dct l::r)=if l.length<sizeLine then .nx ρ (.dct (lG l (.inr x) v)::r)else .bad:=rfl
theorem LH(l:List (PK×PV))(r:List PO)(x:List Nat):b_ (.ref 0) (.str x) (.dct l::r)=match iM l (.inr x)with|some v=>.ok (aj (.dct l::r) v) (.dct l::r)|none=>.bad:=rfl
end
section
variable{ρ:Ev}{h:List L3.PO}
theorem LJ(n:Nat)(gs:U0)(ps:List PV):Oz n gs (.tup ps) ρ=if ps.length=n then gs ps ρ else none:=rfl
theorem LX:bW [] ρ=some ρ:=rfl
theorem KC(xs:List PV):BH [.tup xs] h=.ok (Od 0 xs) h:=rfl
theorem Le(l:List Nat)(lo hi:Option Int):cQ (.str l) lo hi h=if l.length≤sizeLine then .ok (.str (cut l lo hi)) h else .bad:=rfl
theorem Hw(l:List PV)(lo hi:Option Int):cQ (.lst l) lo hi h=.ok (.lst (cut l lo hi)) h:=rfl
theorem Hv(l:List PV)(lo hi:Option Int):cQ (.tup l) lo hi h=if HT.J7 l.length 0 lo=0∧HT.J7 l.length l.length hi=l.length then .ok (.tup l) h else .ok (.tup (cut l lo hi)) h:=rfl
theorem JI(i j:Int):yv [.int i,.int j] h=.ok (.int (if j>i then j else i)) h:=rfl
theorem cV(l:List PV)(i:Nat)(hi:i≤l.length):cQ (.tup l) (some (i:Int)) none h=.ok (.tup (l.drop i)) h:=by
 have e1:HT.J7 l.length 0 (some (i:Int))=i:=by rw[HT.Q_];omega
 have e2:HT.J7 l.length l.length none=l.length:=rfl;rw[Hv,e1,e2]
 by_cases z:i=0
 ·subst z;simp
 ·rw[if_neg (by omega)];show Res.ok (PV.tup (cut l (some (i:Int)) none)) h=_
  congr 2
  unfold cut;rw[e1,e2,List.take_of_length_le (by simp)]
end
section
variable(ρ:Ev)(h:List PO)
theorem Ez(xs:List PV):bZ (.tup xs) h=match dv xs with|some ls=>if ls.length+1<scanBound then .ok (.int (kE ls:Nat)) h else .bad|none=>.bad:=rfl
theorem AY(xs:List PV)(k:Int):km (.tup xs) (.int k) h=if QM 9223372036854775808 k=true∧xs.length * k.toNat≤sizeLine then .ok (.tup (mS xs k)) h else .bad:=rfl
end
section
variable(ρ:Ev)(h:List PO)(a K xa:PV)(b:Ev)(c d e f g i j k l m n o p q r s t u v y:Option PV)(w:Nat)(x I O:Ex)(z A:Sx)(B:PV→List PO→Res PV)(C:List PV→List PO→Res PV)(D:Ax)(E:List PV→Out)(G:List PV→Res PV)(H N:PV→PV→List PO→Res PV)(J:List PV)(L:Bool)(M W:Tx)(P Q:Ox)(R:PV→Option Int→Option Int→List PO→Res PV)(S:Option Int)(T:Int)(U:List PO→PV→Bool)(V:PV→List PV→List PO→Res PV)(X:List Nat)(Y:Gx)(Z:PV→PV→PV→Ev→List PO→SR)(xb:U0)
theorem kv0:ag 0 (some a::b) h=.ok (aj h a) h:=rfl
theorem kv1:ag 1 (c::some a::b) h=.ok (aj h a) h:=rfl
theorem kv2:ag 2 (c::d::some a::b) h=.ok (aj h a) h:=rfl
theorem kv3:ag 3 (c::d::e::some a::b) h=.ok (aj h a) h:=rfl
theorem kv4:ag 4 (c::d::e::f::some a::b) h=.ok (aj h a) h:=rfl
theorem kv5:ag 5 (c::d::e::f::g::some a::b) h=.ok (aj h a) h:=rfl
theorem kv6:ag 6 (c::d::e::f::g::i::some a::b) h=.ok (aj h a) h:=rfl
theorem kv7:ag 7 (c::d::e::f::g::i::j::some a::b) h=.ok (aj h a) h:=rfl
theorem kv8:ag 8 (c::d::e::f::g::i::j::k::some a::b) h=.ok (aj h a) h:=rfl
theorem kv9:ag 9 (c::d::e::f::g::i::j::k::l::some a::b) h=.ok (aj h a) h:=rfl
theorem LO:ag 10 (c::d::e::f::g::i::j::k::l::m::some a::b) h=.ok (aj h a) h:=rfl
theorem LN:ag 11 (c::d::e::f::g::i::j::k::l::m::n::some a::b) h=.ok (aj h a) h:=rfl
theorem LM:ag 12 (c::d::e::f::g::i::j::k::l::m::n::o::some a::b) h=.ok (aj h a) h:=rfl
def S5(i:Nat)(ρ:Ev)(r:Res PV):SR:=dY r fun v h1=>.nx (ρ.set i (some v)) h1
theorem IZ:aO w x ρ h=S5 w ρ (x ρ h):=rfl
theorem ks1:S5 1 (c::d::b) (.ok a h)=.nx (c::some a::b) h:=rfl
theorem ks2:S5 2 (c::d::e::b) (.ok a h)=.nx (c::d::some a::b) h:=rfl
theorem ks3:S5 3 (c::d::e::f::b) (.ok a h)=.nx (c::d::e::some a::b) h:=rfl
theorem ks4:S5 4 (c::d::e::f::g::b) (.ok a h)=.nx (c::d::e::f::some a::b) h:=rfl
theorem ks5:S5 5 (c::d::e::f::g::i::b) (.ok a h)=.nx (c::d::e::f::g::some a::b) h:=rfl
theorem ks6:S5 6 (c::d::e::f::g::i::j::b) (.ok a h)=.nx (c::d::e::f::g::i::some a::b) h:=rfl
theorem ks7:S5 7 (c::d::e::f::g::i::j::k::b) (.ok a h)=.nx (c::d::e::f::g::i::j::some a::b) h:=rfl
theorem ks8:S5 8 (c::d::e::f::g::i::j::k::l::b) (.ok a h)=.nx (c::d::e::f::g::i::j::k::some a::b) h:=rfl
theorem ks9:S5 9 (c::d::e::f::g::i::j::k::l::m::b) (.ok a h)=.nx (c::d::e::f::g::i::j::k::l::some a::b) h:=rfl
theorem LR:S5 10 (c::d::e::f::g::i::j::k::l::m::n::b) (.ok a h)=.nx (c::d::e::f::g::i::j::k::l::m::some a::b) h:=rfl
theorem LQ:S5 11 (c::d::e::f::g::i::j::k::l::m::n::o::b) (.ok a h)=.nx (c::d::e::f::g::i::j::k::l::m::n::some a::b) h:=rfl
theorem LP:S5 12 (c::d::e::f::g::i::j::k::l::m::n::o::p::b) (.ok a h)=.nx (c::d::e::f::g::i::j::k::l::m::n::o::some a::b) h:=rfl
def wJ(g:Sx)(r:SR):SR:=match r with
 |.nx ρ1 h1=>g ρ1 h1
 |.rt v h1=>.rt v h1
 |.bk ρ1 h1=>.bk ρ1 h1
 |.ct ρ1 h1=>.ct ρ1 h1
 |.exc v h1=>.exc v h1
 |.bad=>.bad
theorem Ja:aA z A ρ h=wJ A (z ρ h):=rfl
theorem Ld:wJ z (.nx ρ h)=z ρ h:=rfl
theorem Lc:wJ z (.rt a h)=.rt a h:=rfl
theorem JC:wJ z (.exc a h)=.exc a h:=rfl
def kg{α β:Type}(f:α→List PO→Res β)(r:Res α):Res β:=r.bind f
theorem Ls{α β:Type}(f:α→List PO→Res β)(a:α):kg f (.ok a h)=f a h:=rfl
theorem JV{α β:Type}(f:α→List PO→Res β)(e:PV):kg f (.exc e h)=.exc e h:=rfl
theorem Lr:c1 B x ρ h=kg B (x ρ h):=rfl
theorem Lo:cN C D ρ h=kg C (D ρ h):=rfl
theorem Je:bn E D ρ h=kg (bj E) (D ρ h):=rfl
theorem Im:aZ C D ρ h=kg (cP C) (D ρ h):=rfl
theorem Jf:iJ x ρ h=kg jq (x ρ h):=rfl
theorem Io:iK D ρ h=kg BH (D ρ h):=rfl
theorem Lm:ZF x ρ h=kg XR (x ρ h):=rfl
def k2(g:PV→PV→List PO→Res PV)(b:Ex)(ρ:Ev)(r:Res PV):Res PV:=r.bind fun x h1=>kg (g x) (b ρ h1)
theorem Lq:c2 H x I ρ h=k2 H I ρ (x ρ h):=rfl
theorem LF:k2 H x ρ (.ok a h)=kg (H a) (x ρ h):=rfl
def YM(x:PV)(r:Res (List PV)):Res (List PV):=r.bind fun xs h2=>.ok (x::xs) h2
def kC(r:Ax)(ρ:Ev)(x:Res PV):Res (List PV):=x.bind fun x h1=>YM x (r ρ h1)
theorem Jd:af x D ρ h=kC D ρ (x ρ h):=rfl
theorem LD:kC D ρ (.ok a h)=YM a (D ρ h):=rfl
theorem Kp:YM a (.ok J h)=.ok (a::J) h:=rfl
theorem Ko:kC D ρ (.exc a h)=.exc a h:=rfl
def Ir(g:Ex)(ρ:Ev)(r:Res PV):Res PV:=r.bind fun p h1=>match p with|.bl b=>if b=true then g ρ h1 else .ok (.bl false) h1|_=>.bad
theorem JU:DS x I ρ h=Ir I ρ (x ρ h):=rfl
theorem Kr:Ir x ρ (.ok (.bl L) h)=if L=true then x ρ h else .ok (.bl false) h:=rfl
def kOr(g:Ex)(ρ:Ev)(r:Res PV):Res PV:=r.bind fun p h1=>match p with|.bl b=>if b=true then .ok (.bl true) h1 else g ρ h1|_=>.bad
theorem Ll:Ue x I ρ h=kOr I ρ (x ρ h):=rfl
theorem Lx:kOr x ρ (.ok (.bl L) h)=if L=true then .ok (.bl true) h else x ρ h:=rfl
def kIe(f g:Ex)(ρ:Ev)(r:Res Bool):Res PV:=r.bind fun b h1=>if b=true then f ρ h1 else g ρ h1
theorem JS:wc M x I ρ h=kIe x I ρ (M ρ h):=rfl
theorem Kk:kIe x I ρ (.ok L h)=if L=true then x ρ h else I ρ h:=rfl
def YK(f:PV→Option Int→Option Int→List PO→Res PV)(hi:Ox)(ρ:Ev)(p:PV)(r:Res (Option Int)):Res PV:=r.bind fun l h2=>kg (f p l) (hi ρ h2)
def kL1(f:PV→Option Int→Option Int→List PO→Res PV)(lo hi:Ox)(ρ:Ev)(r:Res PV):Res PV:=r.bind fun p h1=>YK f hi ρ p (lo ρ h1)
theorem JP:cD x P Q ρ h=kL1 cQ P Q ρ (x ρ h):=rfl
theorem Ki:kL1 R P Q ρ (.ok a h)=YK R Q ρ a (P ρ h):=rfl
theorem Kh:YK R P ρ a (.ok S h)=kg (R a S) (P ρ h):=rfl
def kO(r:Res PV):Res (Option Int):=r.bind fun p h1=>match p with|.int i=>.ok (some i) h1|_=>.bad
theorem Il:bq x ρ h=kO (x ρ h):=rfl
theorem LU:kO (.ok (.int T) h)=.ok (some T) h:=rfl
def kM(recv:List PO→PV→Bool)(g:PV→List PV→List PO→Res PV)(as:Ax)(ρ:Ev)(r:Res PV):Res PV:=r.bind fun p h1=>if recv h1 p=true then kg (g p) (as ρ h1)else .bad
theorem Lp:cM U V x D ρ h=kM U V D ρ (x ρ h):=rfl
theorem LA:kM U V D ρ (.ok a h)=if U h a=true then kg (V a) (D ρ h)else .bad:=rfl
def YH(h:List PO)(o:Option Bool):Res Bool:=match o with|some b=>.ok b h|none=>.bad
def kTr(r:Res PV):Res Bool:=r.bind fun p h1=>YH h1 (kA h1 p)
theorem IV:ki x ρ h=kTr (x ρ h):=rfl
theorem Kc:kTr (.ok a h)=YH h (kA h a):=rfl
theorem Lu:YH h (some L)=.ok L h:=rfl
def kCm(r:Res PV):Res Bool:=r.bind fun p h1=>match p with|.bl b=>.ok b h1|_=>.bad
theorem IW:au x ρ h=kCm (x ρ h):=rfl
theorem LC:kCm (.ok (.bl L) h)=.ok L h:=rfl
def kTa(g:Tx)(ρ:Ev)(r:Res Bool):Res Bool:=r.bind fun b h1=>if b=true then g ρ h1 else .ok false h1
theorem IX:fQ M W ρ h=kTa W ρ (M ρ h):=rfl
theorem Ke:kTa M ρ (.ok L h)=if L=true then M ρ h else .ok false h:=rfl
def kTu(g:Tx)(ρ:Ev)(r:Res Bool):Res Bool:=r.bind fun b h1=>if b=true then .ok true h1 else g ρ h1
theorem JO:gZ M W ρ h=kTu W ρ (M ρ h):=rfl
theorem Kb:kTu M ρ (.ok L h)=if L=true then .ok true h else M ρ h:=rfl
def kR1(ps:List PV)(h1:List PO):Res (List PV):=match ps with|[.int j]=>if QM 4611686018427387904 j=true then .ok ((List.range j.toNat).map fun i=>PV.int (0+(i:Nat))) h1 else .bad|_=>.bad
theorem GZ:fP D ρ h=kg kR1 (D ρ h):=rfl
theorem Lw(j:Int):kR1 [.int j] h=if QM 4611686018427387904 j=true then .ok ((List.range j.toNat).map fun i=>PV.int (0+(i:Nat))) h else .bad:=rfl
def kCo(g8:List Nat)(tt:Tx)(te:Ex)(ρ:Ev)(r:Res (List PV)):Res (List PV):=r.bind fun xs h1=>if xs.length<sizeLine then bG tt te (cJ g8 ρ) xs h1 else .bad
theorem Ip:eN X D M x ρ h=kCo X M x ρ (D ρ h):=rfl
theorem Kn:kCo X M x ρ (.ok J h)=if J.length<sizeLine then bG M x (cJ X ρ) J h else .bad:=rfl
def YJ(r:Res PV):SR:=dY r fun v h1=>.rt v h1
theorem Jb:aS x ρ h=YJ (x ρ h):=rfl
theorem Kf(v:PV):YJ (.ok v h)=.rt v h:=rfl
theorem Jg(v:PV):YJ (.exc v h)=.exc v h:=rfl
def YL(ρ:Ev)(r:Res PV):SR:=dY r fun _ h1=>.nx ρ h1
theorem Ik:eP x ρ h=YL ρ (x ρ h):=rfl
theorem Km:YL ρ (.ok a h)=.nx ρ h:=rfl
theorem Jh:YL ρ (.exc a h)=.exc a h:=rfl
def kIf(f g:Sx)(ρ:Ev)(r:Res Bool):SR:=uS r fun b h1=>if b=true then f ρ h1 else g ρ h1
theorem JQ:J5 M z A ρ h=kIf z A ρ (M ρ h):=rfl
theorem Kj:kIf z A ρ (.ok L h)=if L=true then z ρ h else A ρ h:=rfl
def kFo(g:Gx)(body:Sx)(ρ:Ev)(r:Res (List PV)):SR:=Bj r fun xs h1=>aN g body xs ρ h1
theorem Jc:gD D Y z ρ h=kFo Y z ρ (D ρ h):=rfl
theorem Kl:kFo Y z ρ (.ok J h)=aN Y z J ρ h:=rfl
def YD(s:PV→PV→PV→Ev→List PO→SR)(ρ:Ev)(v o:PV)(r:Res PV):SR:=dY r fun i h3=>s v o i ρ h3
def YF(s:PV→PV→PV→Ev→List PO→SR)(fi:Ex)(ρ:Ev)(v:PV)(r:Res PV):SR:=dY r fun o h2=>YD s ρ v o (fi ρ h2)
def YG(s:PV→PV→PV→Ev→List PO→SR)(fo fi:Ex)(ρ:Ev)(r:Res PV):SR:=dY r fun v h1=>YF s fi ρ v (fo ρ h1)
theorem Ij:iP x I O ρ h=YG gB x I ρ (O ρ h):=rfl
theorem IY:tQ x I O ρ h=YG wI x I ρ (O ρ h):=rfl
theorem Ka:YG Z x I ρ (.ok a h)=YF Z I ρ a (x ρ h):=rfl
theorem JZ:YF Z x ρ a (.ok K h)=YD Z ρ a K (x ρ h):=rfl
theorem JY:YD Z ρ a K (.ok xa h)=Z a K xa ρ h:=rfl
def YQ(h:List PO)(o:Option Ev):SR:=match o with|some ρ1=>.nx ρ1 h|none=>.bad
def kAs(g:Gx)(ρ:Ev)(r:Res PV):SR:=dY r fun v h1=>YQ h1 (g v ρ)
theorem JT:zK Y x ρ h=kAs Y ρ (x ρ h):=rfl
theorem Kq:kAs Y ρ (.ok a h)=YQ h (Y a ρ):=rfl
theorem LE:YQ h (some ρ)=.nx ρ h:=rfl
def kG(gs:U0)(r:List PV)(o:Option Ev):Option Ev:=match o with|some ρ1=>gs r ρ1|none=>none
theorem LS:aE Y xb (a::J) ρ=kG xb J (Y a ρ):=rfl
theorem LV:kG xb J (some ρ)=xb J ρ:=rfl
def XC(g:Ex)(ρ:Ev)(p:PV)(h1:List PO)(o:Option Bool):Res PV:=match o with|some true=>.ok p h1|some false=>g ρ h1|none=>.bad
def kOT(g:Ex)(ρ:Ev)(r:Res PV):Res PV:=r.bind fun p h1=>XC g ρ p h1 (kA h1 p)
theorem JR:GK x I ρ h=kOT I ρ (x ρ h):=rfl
theorem Kg:kOT x ρ (.ok a h)=XC x ρ a h (kA h a):=rfl
theorem Ly:XC x ρ a h (some true)=.ok a h:=rfl
theorem Lz:XC x ρ a h (some false)=x ρ h:=rfl
def XD(h:List PO)(o:Option PV):Res PV:=match o with|some v=>.ok (aj h v) h|none=>.bad
theorem LB:XD h (some a)=.ok (aj h a) h:=rfl
theorem Li:b_ (.tup J) (.int T) h=XD h (Np J T):=rfl
theorem Lj:b_ (.lst J) (.int T) h=XD h (Np J T):=rfl
theorem Lk:b_ (.O7 J) (.int T) h=XD h (Np J T):=rfl
end
end L3
namespace K9
open PySem L2 L3
local macro_rules | `(tactic| simp $c:optConfig only [EV,$xs,*])=>do let a←(("Res.Mj IF IJ LY KA IE Jk ID KB KJ LL KG KH KD KI KK Jl JB JH Lg Lh KM LW Ji LG qj Be JJ IU Jo JF IT LI IR IS Jj Kz Lb La szl IQ GY Ha Jn Jm LK JD LH LJ LX KC Le JI Ez AY kv0 kv1 kv2 kv3 kv4 kv5 kv6 kv7 kv8 kv9 LO LN LM IZ ks1 ks2 ks3 ks4 ks5 ks6 ks7 ks8 ks9 LR LQ LP Ja Ld Lc JC Ls JV Lr Lo Je Im Jf Io Lm Lq LF Jd LD Kp Ko JU Kr Ll Lx JS Kk JP Ki Kh Il LU Lp LA IV Kc Lu IW LC IX Ke JO Kb GZ Lw Ip Kn Jb Kf Jg Ik Km Jh JQ Kj Jc Kl Ij IY Ka JZ JY JT Kq LE LS LV JR Kg Ly Lz LB Li Lj Lk".splitOn.map fun n=>`L3++n.toName)++("List.getElem?_cons_zero List.getElem?_cons_succ List.set_cons_zero List.set_cons_succ List.map_cons List.map_nil List.append_nil List.nil_append List.cons_append if_true if_false reduceIte Bool.not_true Bool.not_false Bool.true_and Bool.and_true Bool.and_false Bool.true_or Bool.false_or Bool.or_true Bool.or_false Bool.not_not eq_self_iff_true true_and and_true Bool.false_eq_true reduceCtorEq List.length_cons List.length_nil List.replicate Nat.sub_self Nat.zero_add Option.isSome_some Option.isSome_none Nat.reduceAdd Nat.reduceLeDiff Int.reduceLT Int.reduceLE decide_true decide_false Int.reduceNeg Int.reducePow Nat.reducePow Int.reduceAdd Int.reduceMul Int.reduceSub Nat.reduceSub and_self Nat.reduceMul Nat.reduceEqDiff".splitOn.map fun n=>n.toName)).toArray.mapM fun n=>`(Lean.Parser.Tactic.simpLemma| $(Lean.mkIdent n):term);`(tactic| simp $c:optConfig only [$a,*,$xs,*])
structure Mz where
 a:List Nat
 f:List (List Nat)
noncomputable def MF(p:Mz):PV:=.tup (.str p.a::p.f.map PV.str)
def bg(l:List Mz):List PV:=l.map MF
noncomputable def nms(l:List (List Nat)):PV:=.tup (l.map PV.str)
mutual
inductive Nd where
 |text (s:List Nat)
 |place (p:Mz) (w:List Nat)
 |loop (n:List Nat) (p:Mz) (ns:G8) (b:List Nat)
 |choice (p:Mz) (y n:G8)
 |use (n:List Nat) (ps:List Mz)
 |j4 (n:List Nat) (ps:List Mz) (h:List (List Nat)) (b:G8)
 |body (ps:List Mz)
inductive G8 where
 |nil
 |cons (n:Nd) (r:G8)
end
abbrev tT:List Nat:=[116,101,120,116]
abbrev tP:List Nat:=[112,108,97,99,101]
abbrev tL:List Nat:=[108,111,111,112]
abbrev tC:List Nat:=[99,104,111,105,99,101]
abbrev tU:List Nat:=[117,115,101]
abbrev tB:List Nat:=[98,111,100,121]
abbrev tI:List Nat:=[112,105,101,99,101]
mutual
def nd:Nd→PV
 |.text s=>.tup [.str tT,.str s]
 |.place p w=>.tup [.str tP,MF p,.str w]
 |.loop n p ns b=>.tup [.str tL,.str n,MF p,.tup (f9 ns),.str b]
 |.choice p y n=>.tup [.str tC,MF p,.tup (f9 y),.tup (f9 n)]
 |.use n ps=>.tup [.str tU,.str n,.tup (bg ps),.non,.non]
 |.j4 n ps h b=>.tup [.str tU,.str n,.tup (bg ps),nms h,.tup (f9 b)]
 |.body ps=>.tup [.str tB,.tup (bg ps)]
def f9:G8→List PV
 |.nil=> []
 |.cons n r=>nd n::f9 r
end
structure Pc where
 n:List Nat
 ns:List (List Nat)
 m:Option Int
 b:G8
noncomputable def G_:Option Int→PV
 |none=>.non
 |some i=>.int i
def pc(q:Pc):PV:=.tup [.str tI,.str q.n,nms q.ns,G_ q.m,.tup (f9 q.b)]
def bk(l:List Pc):PV:=.tup (l.map pc)
noncomputable def out(ns:List (List Nat))(p:Mz):Bool:=!ns.contains p.a
noncomputable def look(E:List Pc)(n:List Nat):Option Pc:=E.find? fun q=>q.n==n
def dup(l:List (List Nat)):Bool:=decide (kE l<l.length)
def Q9(ps:List Mz)(q:Pc):Option (List (List Nat))→Bool
 |none=>ps.length !=q.ns.length||q.m.isSome
 |some l=>ps.length !=q.ns.length||match q.m with
  |none=>true
  |some m=>(l.length:Int) !=m||dup l
def Nz(E:List Pc)(m:Option Int)(ns:List (List Nat)):Nd→Bool
 |.text _=>false
 |.place p _=>out ns p
 |.loop _ p _ _=>out ns p
 |.choice p _ _=>out ns p
 |.use n ps=>ps.any (out ns)||match look E n with
  |none=>true
  |some q=>Q9 ps q none
 |.j4 n ps h _=>ps.any (out ns)||match look E n with
  |none=>true
  |some q=>Q9 ps q (some h)
 |.body ps=>ps.any (out ns)||match m with
  |none=>true
  |some i=>(ps.length:Int) !=i
mutual
def R9(E:List Pc)(m:Option Int)(w:List Int)(ns:List (List Nat)):Nd→Option (List Int)
 |.loop n _ b _=>Qg E m w 0 (ns++ [n]) b
 |.choice _ y n=>(Qg E m (w++ [0]) 0 ns y).or (Qg E m (w++ [1]) 0 ns n)
 |.j4 _ _ h b=>Qg E m w 0 (ns++h) b
 |_=>none
def Qg(E:List Pc)(m:Option Int)(w:List Int)(k:Nat)(ns:List (List Nat)):G8→Option (List Int)
 |.nil=>none
 |.cons n r=>if Nz E m ns n=true then some (w++ [(k:Int)])else(R9 E m (w++ [(k:Int)]) ns n).or (Qg E m w (k+1) ns r)
end
def QT(len:Nat):List Pc→List Pc→Option (List Int)
 |_,[]=>none
 |E,q::r=>if((E.map (·.n)).contains q.n||dup q.ns||(decide (E.length+1=len)&&q.m.isSome))=true then some [(E.length:Int)]else(Qg E q.m [(E.length:Int)] 0 q.ns q.b).or (QT len (E++ [q]) r)
theorem jT{g:Gx}{b:Sx}{p:PV}{r:List PV}{ρ ρ1 ρ2:Ev}{h h2:List PO}(hg:g p ρ=some ρ1)(hb:b ρ1 h=.nx ρ2 h2):aN g b (p::r) ρ h=aN g b r ρ2 h2:=by simp only[aN,hg,hb]
theorem O3{α:Type}(a:α)(l:List α):Np (a::l) 0=some a:=dJ (by decide) rfl
theorem at1{α:Type}(a b:α)(l:List α):Np (a::b::l) 1=some b:=dJ (by decide) rfl
theorem at2{α:Type}(a b c:α)(l:List α):Np (a::b::c::l) 2=some c:=dJ (by decide) rfl
theorem Ug{α:Type}(a b c d:α)(l:List α):Np (a::b::c::d::l) 3=some d:=dJ (by decide) rfl
theorem Yb{α:Type}(a b c d e:α)(l:List α):Np (a::b::c::d::e::l) 4=some e:=dJ (by decide) rfl
theorem MK{a b:List Nat}(c:Bool)(e:(match G9 (.str a) (.str b) []with|.ok (.bl d) _=>d==c|_=>false)=true:=by kernel_rfl)(h:List PO):G9 (.str a) (.str b) h=.ok (.bl c) h:=by
 unfold G9 at e ⊢
 split at e
 ·rename_i d h' z
  split at z
  ·rename_i ok
   cases z
   have:Oe h (.str a)=true∧Oe h (.str b)=true:=ok;rw[if_pos this];have q:=eq_of_beq e;rw[show O2 h (.str a)=O2 [] (.str a)from rfl,show O2 h (.str b)=O2 [] (.str b)from rfl,q]
  ·cases z
 ·cases e
theorem fj:∀l:List (List Nat),ai (l.map PV.str)=true
 |[]=>rfl
 |a::r=>by rw[List.map_cons,ai,fj r];rfl
theorem eQ(p:Mz):(MF p).pure=true:=by unfold MF;rw[PV.pure,ai,fj];rfl
theorem aK:∀l:List Mz,ai (bg l)=true
 |[]=>rfl
 |a::r=>by show ai (MF a::bg r)=true;rw[ai,eQ,aK r];rfl
theorem br(l:List (List Nat)):(nms l).pure=true:=by unfold nms;rw[PV.pure];exact fj l
mutual
theorem bz:∀n:Nd,(nd n).pure=true
 |.text s=>by simp[nd,PV.pure,ai]
 |.place p w=>by simp[nd,PV.pure,ai,eQ]
 |.loop n p ns b=>by simp[nd,PV.pure,ai,eQ,aY ns]
 |.choice p y n=>by simp[nd,PV.pure,ai,eQ,aY y,aY n]
 |.use n ps=>by simp[nd,PV.pure,ai,aK]
 |.j4 n ps h b=>by simp[nd,PV.pure,ai,aK,br,aY b]
 |.body ps=>by simp[nd,PV.pure,ai,aK]
theorem aY:∀n:G8,ai (f9 n)=true
 |.nil=>by simp[f9,ai]
 |.cons n r=>by simp[f9,ai,bz n,aY r]
end
theorem bD{p:PV}{h:List L3.PO}(hp:p.pure=true):cr p h=.ok p:=by unfold cr;rw[iE h hp]
theorem il(h:List PO)(p:Mz):aj h (MF p)=MF p:=rfl
theorem mI(h:List PO)(p:List (List Nat)):aj h (nms p)=nms p:=rfl
noncomputable def pa:Nd→List Mz
 |.text _=> []
 |.place p _=> [p]
 |.loop _ p _ _=> [p]
 |.choice p _ _=> [p]
 |.use _ ps=>ps
 |.j4 _ ps _ _=>ps
 |.body ps=>ps
theorem AD(k:Nat)(n:Nd):F (k+1) .Mw [nd n]=.ok (.tup (bg (pa n))):=by
 show aW (cO (F k)) 1 1 [nd n]=_
 cases n with
 |text s=>simp only[EV,nd,aW,cO,il,O3,at1,at2,MK (a:=tT) (b:=tT) true,pa];exact bD (by rw[PV.pure];first|exact aK _|exact aK []|exact aK [_])
 |place p w=>simp only[EV,nd,aW,cO,il,O3,at1,at2,MK (a:=tP) (b:=tT) false,MK (a:=tP) (b:=tL) false,MK (a:=tP) (b:=tU) false,MK (a:=tP) (b:=tB) false,pa];exact bD (by rw[PV.pure];first|exact aK _|exact aK []|exact aK [_])
 |loop n p ns b=>simp only[EV,nd,aW,cO,il,O3,at1,at2,MK (a:=tL) (b:=tT) false,MK (a:=tL) (b:=tL) true,pa];exact bD (by rw[PV.pure];first|exact aK _|exact aK []|exact aK [_])
 |choice p y n=>simp only[EV,nd,aW,cO,il,O3,at1,at2,MK (a:=tC) (b:=tT) false,MK (a:=tC) (b:=tL) false,MK (a:=tC) (b:=tU) false,MK (a:=tC) (b:=tB) false,pa];exact bD (by rw[PV.pure];first|exact aK _|exact aK []|exact aK [_])
 |use n ps=>simp only[EV,nd,aW,cO,il,O3,at1,at2,MK (a:=tU) (b:=tT) false,MK (a:=tU) (b:=tL) false,MK (a:=tU) (b:=tU) true,pa];exact bD (by rw[PV.pure];first|exact aK _|exact aK []|exact aK [_])
 |j4 n ps h b=>simp only[EV,nd,aW,cO,il,O3,at1,at2,MK (a:=tU) (b:=tT) false,MK (a:=tU) (b:=tL) false,MK (a:=tU) (b:=tU) true,pa];exact bD (by rw[PV.pure];first|exact aK _|exact aK []|exact aK [_])
 |body ps=>simp only[EV,nd,aW,cO,il,O3,at1,at2,MK (a:=tB) (b:=tT) false,MK (a:=tB) (b:=tL) false,MK (a:=tB) (b:=tU) false,MK (a:=tB) (b:=tB) true,pa];exact bD (by rw[PV.pure];first|exact aK _|exact aK []|exact aK [_])
def Rk(w:List Int)(ns:List (List Nat))(b:G8):PV:=.tup [.tup (w.map PV.int),nms ns,.tup (f9 b)]
noncomputable def prs:Nd→List (List Int×List (List Nat)×G8)
 |.loop n _ b _=> [([],[n],b)]
 |.choice _ y n=> [([0],[],y),([1],[],n)]
 |.j4 _ _ h b=> [([],h,b)]
 |_=> []
theorem Ai(w:List Int)(ns:List (List Nat))(b:G8):(Rk w ns b).pure=true:=by
 have:∀w:List Int,ai (w.map PV.int)=true:=fun w=>by induction w with
  |nil=>rfl
  |cons a r ih=>rw[List.map_cons,ai,ih];rfl
 unfold Rk;simp[PV.pure,ai,this,br,aY]
theorem AE(k:Nat)(n:Nd):F (k+1) .v5 [nd n]=.ok (.lst ((prs n).map fun x=>Rk x.1 x.2.1 x.2.2)):=by
 show aW (bE (F k)) 1 1 [nd n]=_
 have fin:∀(l:List (List Int×List (List Nat)×G8)),cr (.lst (l.map fun x=>Rk x.1 x.2.1 x.2.2)) []=.ok (.lst (l.map fun x=>Rk x.1 x.2.1 x.2.2)):=fun l=>bD (by
  rw[PV.pure]
  induction l with
  |nil=>rfl
  |cons a r ih=>rw[List.map_cons,ai,Ai,ih];rfl)
 have nn:∀(x:List PV) h,dQ (.tup x) .non h=.ok (.bl true) h:=fun _ _=>rfl;have n0:∀h,dQ .non .non h=.ok (.bl false) h:=fun _=>rfl
 cases n with
 |text s=>simp only[EV,nd,aW,bE,O3,MK (a:=tT) (b:=tL) false,MK (a:=tT) (b:=tC) false,MK (a:=tT) (b:=tU) false];exact fin []
 |place p w=>simp only[EV,nd,aW,bE,O3,MK (a:=tP) (b:=tL) false,MK (a:=tP) (b:=tC) false,MK (a:=tP) (b:=tU) false];exact fin []
 |body ps=>simp only[EV,nd,aW,bE,O3,MK (a:=tB) (b:=tL) false,MK (a:=tB) (b:=tC) false,MK (a:=tB) (b:=tU) false];exact fin []
 |use m ps=>simp only[EV,nd,aW,bE,O3,Yb,n0,MK (a:=tU) (b:=tL) false,MK (a:=tU) (b:=tC) false,MK (a:=tU) (b:=tU) true];exact fin []
 |loop m p ns b=>simp only[EV,nd,aW,bE,O3,at1,Ug,MK (a:=tL) (b:=tL) true];exact fin [([],[m],ns)]
 |choice p y m=>simp only[EV,nd,aW,bE,O3,at2,Ug,MK (a:=tC) (b:=tL) false,MK (a:=tC) (b:=tC) true];exact fin [([0],[],y),([1],[],m)]
 |j4 m ps hh b=>simp only[EV,nd,aW,bE,O3,Ug,Yb,nn,mI,MK (a:=tU) (b:=tL) false,MK (a:=tU) (b:=tC) false,MK (a:=tU) (b:=tU) true];exact fin [([],hh,b)]
noncomputable def sg(l:List Nat):Bool:=l.all fun c=>decide (c<1114112)
theorem gA{l:List Nat}(h:sg l=true):∀c∈l,c<1114112:=fun c hc=>of_decide_eq_true (List.all_eq_true.mp h c hc)
def Mu(l:List (List Nat)):Bool:=l.all sg
theorem zB{l:List (List Nat)}(h:Mu l=true):∀x∈l,∀c∈x,c<1114112:=fun x hx=>gA (List.all_eq_true.mp h x hx)
theorem eK:∀l:List (List Nat),dv (l.map PV.str)=some l
 |[]=>rfl
 |a::r=>by rw[List.map_cons,dv,eK r];rfl
theorem tx(k:Nat)(l:List (List Nat))(hl:l.length<60):F (k+1) .J3 [nms l]=.ok (.bl (dup l)):=by
 show aW (gX (F k)) 1 1 [nms l]=_;have q:l.length+1<scanBound:=Nat.lt_of_lt_of_le (Nat.succ_lt_succ hl) (by decide);have e:decide (((kE l:Nat):Int)<((l.length:Nat):Int))=dup l:=by unfold dup;simp
 simp only[EV,nms,aW,gX,eK,q,List.length_map,e,cr]
theorem pH:gJ .non=true:=rfl
theorem pG(i:Int):gJ (.int i)=false:=rfl
theorem rR(l:List PV):gJ (.tup l)=false:=rfl
theorem xx:∀{l:List PV}(h:List PO),ai l=true→MP l h=some (l,h)
 |[],_,_=>rfl
 |p::r,h,e=>by rw[ai,acf]at e;rw[MP,iE h e.1];dsimp only;rw[xx h e.2]
theorem aM{fn:List PV→Out}{ps:List PV}{v:PV}(h:List PO)(hp:ai ps=true)(e:fn ps=.ok v):bj fn ps h=.ok v h:=by rw[zb,xx h hp];dsimp only;rw[e]
theorem Co(k:Nat)(n:List Nat)(ps:List Mz)(q:Pc):F (k+1) .o8 [nd (.use n ps),pc q]=.ok (.bl (Q9 ps q none)):=by
 show aW (bt (F k)) 2 2 [nd (.use n ps),pc q]=_
 by_cases e:ps.length=q.ns.length
 ·have e1:decide (((ps.length:Nat):Int)=((q.ns.length:Nat):Int))=true:=decide_eq_true (by omega);have e2:(ps.length !=q.ns.length)=false:=by simp[e]
  cases hm:q.m with
  |none=>simp only[EV,nd,pc,bg,nms,G_,hm,aW,bt,at2,Ug,hJ,pH,pG,rR,List.length_map,e1,e2,Q9,Option.isSome_none,cr]
  |some i=>simp only[EV,nd,pc,bg,nms,G_,hm,aW,bt,at2,Ug,hJ,pH,pG,rR,List.length_map,e1,e2,Q9,Option.isSome_some,cr]
 ·have e1:decide (((ps.length:Nat):Int)=((q.ns.length:Nat):Int))=false:=decide_eq_false (by omega);have e2:(ps.length !=q.ns.length)=true:=by simp[e]
  simp only[EV,nd,pc,bg,nms,aW,bt,at2,hJ,pH,pG,rR,List.length_map,e1,e2,Q9,cr]
theorem zo(k:Nat)(n:List Nat)(ps:List Mz)(hs:List (List Nat))(b:G8)(q:Pc)(hl:hs.length<60):F (k+2) .o8 [nd (.j4 n ps hs b),pc q]=.ok (.bl (Q9 ps q (some hs))):=by
 show aW (bt (F (k+1))) 2 2 [nd (.j4 n ps hs b),pc q]=_
 by_cases e:ps.length=q.ns.length
 ·have e1:decide (((ps.length:Nat):Int)=((q.ns.length:Nat):Int))=true:=decide_eq_true (by omega);have e2:(ps.length !=q.ns.length)=false:=by simp[e]
  cases hm:q.m with
  |none=>simp only[EV,nd,pc,bg,nms,G_,hm,aW,bt,at2,Ug,hJ,pH,pG,rR,List.length_map,e1,e2,Q9,cr]
  |some i=>
   have tw:=tx k hs hl
   by_cases e3:(hs.length:Int)=i
   ·have d3:decide (((hs.length:Nat):Int)=i)=true:=decide_eq_true e3;have b3:(((hs.length:Nat):Int) !=i)=false:=by simp[e3]
    have cw:∀h,bj (F (k+1) .J3) [.tup (hs.map PV.str)] h=.ok (.bl (dup hs)) h:=fun h=>aM h (by rw[ai,PV.pure,fj];rfl) tw;simp only[EV,nd,pc,bg,nms,G_,hm,aW,bt,at2,Ug,hJ,pH,pG,rR,List.length_map,e1,e2,d3,b3,cw,Q9,cr]
   ·have d3:decide (((hs.length:Nat):Int)=i)=false:=decide_eq_false e3;have b3:(((hs.length:Nat):Int) !=i)=true:=by simp[e3]
    simp only[EV,nd,pc,bg,nms,G_,hm,aW,bt,at2,Ug,hJ,pH,pG,rR,List.length_map,e1,e2,d3,b3,Q9,cr]
 ·have e1:decide (((ps.length:Nat):Int)=((q.ns.length:Nat):Int))=false:=decide_eq_false (by omega);have e2:(ps.length !=q.ns.length)=true:=by simp[e]
  simp only[EV,nd,pc,bg,nms,aW,bt,at2,hJ,pH,pG,rR,List.length_map,e1,e2,Q9,cr]
def H_(E:List Pc):List (PK×PV):=E.map fun q=>(.inr q.n,pc q)
theorem lm(n:List Nat):∀E:List Pc,iM (H_ E) (.inr n)=(look E n).map pc
 |[]=>rfl
 |q::r=>by
  have e:H_ (q::r)=(.inr q.n,pc q)::H_ r:=rfl;rw[e]
  by_cases h:q.n=n
  ·subst h;simp[iM,look]
  ·have i:=lm n r;unfold look at i ⊢;rw[List.find?_cons_of_neg (by simpa using h),← i];simp[iM,h]
theorem rT(n:List Nat)(E:List Pc)(r:List PO):hG (.str n) (.ref 0) (.dct (H_ E)::r)=.ok (.bl (!(look E n).isSome)) (.dct (H_ E)::r):=by show(match some (iM (H_ E) (.inr n)).isSome with|some b=>Res.ok (PV.bl (!b)) (.dct (H_ E)::r)|none=>Res.bad)=_;rw[lm,Option.isSome_map]
theorem gT(q:Pc):(pc q).pure=true:=by
 unfold pc
 cases h:q.m<;>simp[PV.pure,ai,br,aY,G_]
theorem Bp(n:List Nat)(E:List Pc)(r:List PO){q:Pc}(e:look E n=some q):b_ (.ref 0) (.str n) (.dct (H_ E)::r)=.ok (pc q) (.dct (H_ E)::r):=by show(match iM (H_ E) (.inr n)with|some v=>Res.ok (aj (.dct (H_ E)::r) v) (.dct (H_ E)::r)|none=>Res.bad)=_;rw[lm,e];rfl
theorem jv(h:List PO)(m:Option Int):aj h (G_ m)=G_ m:=by cases m<;>rfl
theorem gF(h:List PO)(n:Nd):aj h (nd n)=nd n:=lR (h:=h) (bz n)
theorem Ac(p:Mz)(h:List PO):b_ (MF p) (.int 0) h=.ok (.str p.a) h:=by show(match Np (PV.str p.a::p.f.map PV.str) 0 with|some v=>Res.ok (aj h v) h|none=>Res.bad)=_;rw[O3];rfl
def Vm(l:List Mz):Bool:=l.all fun p=>sg p.a
theorem pY(C:CC)(ns:List (List Nat))(hn:Mu ns=true)(a m:PV)(h:List PO):∀(ps:List Mz),Vm ps=true→∀x4,(ps.any (out ns)=true∧aN (w6 4) (cb C) (bg ps) [some a,some (nms ns),some m,some (.ref 0),x4] h=.rt (.bl true) h)∨
  (ps.any (out ns)=false∧∃y4,aN (w6 4) (cb C) (bg ps) [some a,some (nms ns),some m,some (.ref 0),x4] h=.nx [some a,some (nms ns),some m,some (.ref 0),y4] h)
 |[],_,x4=>.inr ⟨rfl,x4,rfl⟩
 |p::r,hp,x4=>by
  simp only[Vm,List.all_cons,acf]at hp
  have ni:hG (.str p.a) (nms ns) h=.ok (.bl (out ns p)) h:=by unfold nms;rw[Ey (gA hp.1) (zB hn)];unfold out;simp
  have e:bg (p::r)=MF p::bg r:=rfl
  have b:cb C [some a,some (nms ns),some m,some (.ref 0),some (MF p)] h=if out ns p=true then .rt (.bl true) h else .nx [some a,some (nms ns),some m,some (.ref 0),some (MF p)] h:=by simp only[EV,cb,il,mI,Ac,ni]
  rw[e]
  cases o:out ns p with
  |true=>
   left
   refine⟨by simp[o],?_⟩;rw[o,if_pos rfl]at b;rw[aN];show(match cb C [some a,some (nms ns),some m,some (.ref 0),some (MF p)] h with|.nx ρ2 h2=>_|.ct ρ2 h2=>_|.bk ρ2 h2=>_|.rt v h2=>_|.exc v h2=>_|.bad=>_)=_;rw[b]
  |false=>
   rw[o,if_neg (by decide)]at b
   have st:aN (w6 4) (cb C) (MF p::bg r) [some a,some (nms ns),some m,some (.ref 0),x4] h=aN (w6 4) (cb C) (bg r) [some a,some (nms ns),some m,some (.ref 0),some (MF p)] h:=by rw[aN];show(match cb C [some a,some (nms ns),some m,some (.ref 0),some (MF p)] h with|.nx ρ2 h2=>_|.ct ρ2 h2=>_|.bk ρ2 h2=>_|.rt v h2=>_|.exc v h2=>_|.bad=>_)=_;rw[b]
   rw[st,List.any_cons,o,Bool.false_or];exact pY C ns hn a m h r hp.2 _
def wp(p:Mz):Bool:=sg p.a&&(Mu p.f&&decide (p.f.length≤10))
def wps(l:List Mz):Bool:=l.all wp&&decide (l.length<60)
mutual
def wN:Nd→Bool
 |.text s=>sg s
 |.place p w=>wp p&&sg w
 |.loop n p b t=>sg n&&(wp p&&(wS b&&sg t))
 |.choice p y n=>wp p&&(wS y&&wS n)
 |.use n ps=>sg n&&wps ps
 |.j4 n ps h b=>sg n&&(wps ps&&(Mu h&&(decide (h.length<60)&&wS b)))
 |.body ps=>wps ps
def wS:G8→Bool
 |.nil=>true
 |.cons n r=>wN n&&wS r
end
theorem uZ{l:List Mz}(h:wps l=true):Vm l=true:=by
 unfold wps at h;rw[acf]at h
 exact List.all_eq_true.mpr fun p hp=>by have:=List.all_eq_true.mp h.1 p hp;unfold wp at this;rw[acf]at this;exact this.1
theorem Ia{n:Nd}(h:wN n=true):Vm (pa n)=true:=by
 cases n with
 |text s=>rfl
 |place p w=>rw[wN,wp,acf,acf]at h;simp[pa,Vm,h.1.1]
 |loop n p b t=>rw[wN,wp,acf,acf,acf]at h;simp[pa,Vm,h.2.1.1]
 |choice p y n=>rw[wN,wp,acf,acf]at h;simp[pa,Vm,h.1.1]
 |use n ps=>rw[wN,acf]at h;exact uZ h.2
 |j4 n ps hh b=>rw[wN,acf,acf]at h;exact uZ h.2.1
 |body ps=>rw[wN]at h;exact uZ h
theorem zk(k:Nat)(E:List Pc)(m:Option Int)(ns:List (List Nat))(hn:Mu ns=true)(n:Nd)(hw:wN n=true):L (k+3) .Mh [nd n,nms ns,G_ m,.ref 0] [.dct (H_ E)]=.ok (.bl (Nz E m ns n)) [.dct (H_ E)]:=by
 show eY (bH (F (k+2))) 4 5 [nd n,nms ns,G_ m,.ref 0] [.dct (H_ E)]=_;have cp:∀h,bj (F (k+2) .Mw) [nd n] h=.ok (.tup (bg (pa n))) h:=fun h=>aM h (by rw[ai,bz];rfl) (AD (k+1) n)
 have fin:∀b:Bool,dX 1 (.bl b) [.dct (H_ E)]=.ok (.bl b) [.dct (H_ E)]:=fun b=>by
  have ep:eI (H_ E)=true:=by
   rw[fm];unfold H_;rw[List.map_map]
   induction E with
   |nil=>rfl
   |cons q r ih=>rw[List.map_cons,ai,ih];simp[gT]
  unfold dX gk;simp[ij,PV.pure,bN,PO.pure,ep]
 have run:bH (F (k+2)) [some (nd n),some (nms ns),some (G_ m),some (.ref 0),none] [.dct (H_ E)]=.rt (.bl (Nz E m ns n)) [.dct (H_ E)]:=by
  rcases pY (F (k+2)) ns hn (nd n) (G_ m) [.dct (H_ E)] (pa n) (Ia hw) none with⟨a1,a2⟩|⟨a1,y4,a2⟩
  ·have:Nz E m ns n=true:=by cases n<;>simp only[pa,List.any_cons,List.any_nil,Bool.or_false]at a1<;>simp[Nz,a1]
   rw[this];simp only[EV,bH,gF,cp,a2]
  ·cases n with
   |text s=>simp only[EV,bH,gF,cp,a2,Nz];simp only[EV,nd,O3,MK (a:=tT) (b:=tU) false,MK (a:=tT) (b:=tB) false]
   |place p w=>simp only[pa,List.any_cons,List.any_nil,Bool.or_false]at a1;simp only[EV,bH,gF,cp,a2,Nz,a1];simp only[EV,nd,O3,MK (a:=tP) (b:=tU) false,MK (a:=tP) (b:=tB) false]
   |loop x p b t=>simp only[pa,List.any_cons,List.any_nil,Bool.or_false]at a1;simp only[EV,bH,gF,cp,a2,Nz,a1];simp only[EV,nd,O3,MK (a:=tL) (b:=tU) false,MK (a:=tL) (b:=tB) false]
   |choice p y z=>simp only[pa,List.any_cons,List.any_nil,Bool.or_false]at a1;simp only[EV,bH,gF,cp,a2,Nz,a1];simp only[EV,nd,O3,MK (a:=tC) (b:=tU) false,MK (a:=tC) (b:=tB) false]
   |body ps=>
    simp only[pa]at a1;simp only[EV,bH,gF,cp,a2,Nz,a1]
    cases m with
    |none=>simp only[EV,nd,G_,O3,pH,MK (a:=tB) (b:=tU) false,MK (a:=tB) (b:=tB) true]
    |some i=>
     simp only[EV,nd,G_,O3,at1,pG,hJ,bg,List.length_map,MK (a:=tB) (b:=tU) false,MK (a:=tB) (b:=tB) true]
     by_cases e:(ps.length:Int)=i<;>simp[e]
   |use x ps=>
    simp only[pa]at a1;simp only[EV,bH,gF,cp,a2,Nz,a1]
    cases l:look E x with
    |none=>simp only[EV,nd,O3,at1,rT,l,MK (a:=tU) (b:=tU) true]
    |some q=>
     have cw:∀h,bj (F (k+2) .o8) [nd (.use x ps),pc q] h=.ok (.bl (Q9 ps q none)) h:=fun h=>aM h (by rw[ai,ai,bz,gT];rfl) (Co (k+1) x ps q);have i1:b_ (nd (.use x ps)) (.int 1) [.dct (H_ E)]=.ok (.str x) [.dct (H_ E)]:=by rw[nd];rfl
     have i0:b_ (nd (.use x ps)) (.int 0) [.dct (H_ E)]=.ok (.str tU) [.dct (H_ E)]:=by rw[nd];rfl
     simp only[EV,i0,i1,gF,rT,Bp x E [] l,l,cw,MK (a:=tU) (b:=tU) true]
   |j4 x ps hh b=>
    simp only[pa]at a1;rw[wN,acf,acf,acf,acf]at hw;simp only[EV,bH,gF,cp,a2,Nz,a1]
    cases l:look E x with
    |none=>simp only[EV,nd,O3,at1,rT,l,MK (a:=tU) (b:=tU) true]
    |some q=>
     have cw:∀h,bj (F (k+2) .o8) [nd (.j4 x ps hh b),pc q] h=.ok (.bl (Q9 ps q (some hh))) h:=fun h=>aM h (by rw[ai,ai,bz,gT];rfl) (zo k x ps hh b q (of_decide_eq_true hw.2.2.2.1));have i1:b_ (nd (.j4 x ps hh b)) (.int 1) [.dct (H_ E)]=.ok (.str x) [.dct (H_ E)]:=by rw[nd];rfl
     have i0:b_ (nd (.j4 x ps hh b)) (.int 0) [.dct (H_ E)]=.ok (.str tU) [.dct (H_ E)]:=by rw[nd];rfl
     simp only[EV,i0,i1,gF,rT,Bp x E [] l,l,cw,MK (a:=tU) (b:=tU) true]
 have r2:∀p1 p2 p3 p4:PV,eY (bH (F (k+2))) 4 5 [p1,p2,p3,p4] [.dct (H_ E)]=match bH (F (k+2)) [some p1,some p2,some p3,some p4,none] [.dct (H_ E)]with|.nx _ h1=>gk 1 .non h1|.rt v h1=>dX 1 v h1|_=>.bad:=fun _ _ _ _=>rfl
 rw[r2,run];exact fin _
mutual
def dN:Nd→Nat
 |.loop _ _ b _=>dS b+1
 |.choice _ y n=>max (dS y) (dS n)+1
 |.j4 _ _ _ b=>dS b+1
 |_=>0
def dS:G8→Nat
 |.nil=>0
 |.cons n r=>max (dN n) (dS r)
end
theorem xp:∀(l:List PV),ai l=true→Q8 (l++ [.ref 0])=[0]∧Rg 0 (l++ [.ref 0])=l++ [.ref 0]∧ie (l++ [.ref 0])=true
 |[],_=>⟨rfl,rfl,rfl⟩
 |p::r,h=>by
  rw[ai,acf]at h;obtain⟨i1,i2,i3⟩:=xp r h.2;have np:∀i,p≠.ref i:=fun i e=>by have:=h.1;subst e;simp[PV.pure]at this
  have q3:ie (p::(r++ [.ref 0]))=(p.pure&&ie (r++ [.ref 0])):=by cases p<;>first|rfl|exact(np _ rfl).elim
  refine⟨?_,?_,?_⟩
  ·rw[List.cons_append];cases p<;>first|exact i1|exact(np _ rfl).elim
  ·rw[List.cons_append];cases p<;>first|exact congrArg _ i2|exact(np _ rfl).elim
  ·rw[List.cons_append,q3,h.1,i3];rfl
theorem cL{fn:List PV→List PO→Res PV}(l:List PV){o:PO}(hl:ai l=true)(ho:o.pure=true):
  (∀v,v.pure=true→fn (l++ [.ref 0]) [o]=.ok v [o]→cP fn (l++ [.ref 0]) [o]=.ok v [o])∧(∀v,v.pure=true→fn (l++ [.ref 0]) [o]=.exc v [o]→cP fn (l++ [.ref 0]) [o]=.exc v [o]):=by
 obtain⟨q1,q2,q3⟩:=xp l hl;have q4:gh [o] [0]=some [o]:=rfl;have q5:(ie (l++ [.ref 0])&&bN [o]&&hU [0])=true:=by rw[q3];simp[bN,ho,hU]
 refine⟨fun v hv e=>?_,fun v hv e=>?_⟩<;>
 ·unfold cP;rw[q1,q4];dsimp only;rw[if_pos q5,q2,e];dsimp only;rw[if_pos ⟨hv,by simp[bN,ho],rfl⟩];rfl
noncomputable def wy(w:List Int):PV:=.tup (w.map PV.int)
theorem bS(w:List Int):(wy w).pure=true:=by
 unfold wy;rw[PV.pure]
 induction w with
 |nil=>rfl
 |cons a r ih=>rw[List.map_cons,ai,ih];rfl
theorem lQ(E:List Pc):(PO.dct (H_ E)).pure=true:=by
 show eI (H_ E)=true;rw[fm];unfold H_;rw[List.map_map]
 induction E with
 |nil=>rfl
 |cons q r ih=>rw[List.map_cons,ai,ih];simp[gT]
def xX(E:List Pc):Option (List Int)→Res PV
 |none=>.ok .non [.dct (H_ E)]
 |some w=>.exc (.Og 6 (wy w)) [.dct (H_ E)]
theorem dh(a b:List PV)(h:List PO)(q:a.length+b.length≤sizeLine):aq (.tup a) (.tup b) h=.ok (.tup (a++b)) h:=by
 cases a with
 |nil=>rfl
 |cons x r=>show(if(x::r).isEmpty=false∧(x::r).length+b.length≤sizeLine then Res.ok (PV.tup (x::r++b)) h else .bad)=_;rw[if_pos ⟨rfl,q⟩]
theorem BY(w:List Int)(x:List Int)(h:List PO)(hl:w.length+x.length≤10000):aq (wy w) (wy x) h=.ok (wy (w++x)) h:=by unfold wy;rw[List.map_append];exact dh _ _ h (by rw[List.length_map,List.length_map];exact Nat.le_trans hl (by decide))
theorem uV(w:List (List Nat))(x:List (List Nat))(h:List PO)(hl:w.length+x.length≤100000):aq (nms w) (nms x) h=.ok (nms (w++x)) h:=by unfold nms;rw[List.map_append];exact dh _ _ h (by rw[List.length_map,List.length_map];exact Nat.le_trans hl (by decide))
theorem jL{a b:List (List Nat)}(ha:Mu a=true)(hb:Mu b=true):Mu (a++b)=true:=by unfold Mu at*;rw[List.all_append,ha,hb];rfl
def pJ(E:List Pc)(ρ:Ev):Option (List Int)→SR
 |none=>.nx ρ [.dct (H_ E)]
 |some w=>.exc (.Og 6 (wy w)) [.dct (H_ E)]
theorem AF(k:Nat)(E:List Pc)(m:Option Int)(a c:PV)(i:PV)(w x:List Int)(ns ys:List (List Nat))(b:G8)(n:Nd)(r:Option (List Int))(hw:w.length+x.length≤10000)(hn:ns.length+ys.length≤100000)
  (e:X_ k .d8 [.tup (f9 b),wy (w++x),nms (ns++ys),G_ m,.ref 0] [.dct (H_ E)]=xX E r):
  bM (F k) (X_ k) [some a,some c,some (nms ns),some (G_ m),some (.ref 0),some i,some (nd n),some (wy w),some (Rk x ys b)] [.dct (H_ E)]=pJ E [some a,some c,some (nms ns),some (G_ m),some (.ref 0),some i,some (nd n),some (wy w),some (Rk x ys b)] r:=by
 have p0:∀h,b_ (Rk x ys b) (.int 0) h=.ok (wy x) h:=fun h=>rfl;have p1:∀h,b_ (Rk x ys b) (.int 1) h=.ok (nms ys) h:=fun h=>rfl;have p2:∀h,b_ (Rk x ys b) (.int 2) h=.ok (.tup (f9 b)) h:=fun h=>rfl;have dp:∀h,aj h (Rk x ys b)=Rk x ys b:=fun h=>rfl;have dw:∀h,aj h (wy w)=wy w:=fun h=>rfl;have mp:(G_ m).pure=true:=by cases m<;>rfl
 obtain⟨c1,c2⟩:=cL (fn:=X_ k .d8) [.tup (f9 b),wy (w++x),nms (ns++ys),G_ m] (o:=.dct (H_ E)) (by simp[ai,PV.pure,aY b,bS,br,mp]) (lQ E)
 cases r with
 |none=>have cc:=c1 .non rfl e;simp only[List.cons_append,List.nil_append]at cc;simp only[EV,bM,p0,p1,p2,dp,dw,mI,jv,BY w x _ hw,uV ns ys _ hn,cc,pJ]
 |some v=>have cc:=c2 (.Og 6 (wy v)) (by rw[PV.pure];exact bS v) e;simp only[List.cons_append,List.nil_append]at cc;simp only[EV,bM,p0,p1,p2,dp,dw,mI,jv,BY w x _ hw,uV ns ys _ hn,cc,pJ,Res.N5]
def kT:Nd→List Nat
 |.text _=>tT
 |.place _ _=>tP
 |.loop _ _ _ _=>tL
 |.choice _ _ _=>tC
 |.use _ _=>tU
 |.j4 _ _ _ _=>tU
 |.body _=>tB
theorem kt1(s:List Nat):kT (.text s)=tT:=rfl
theorem kt2(p:Mz)(s:List Nat):kT (.place p s)=tP:=rfl
theorem kt3(x:List Nat)(p:Mz)(b:G8)(t:List Nat):kT (.loop x p b t)=tL:=rfl
theorem kt4(p:Mz)(y z:G8):kT (.choice p y z)=tC:=rfl
theorem kt5(x:List Nat)(ps:List Mz):kT (.use x ps)=tU:=rfl
theorem kt6(x:List Nat)(ps:List Mz)(h:List (List Nat))(b:G8):kT (.j4 x ps h b)=tU:=rfl
theorem kt7(ps:List Mz):kT (.body ps)=tB:=rfl
abbrev qE(a b:List Nat)(c:Bool)(h:List PO):Prop:=G9 (.str a) (.str b) h=.ok (.bl c) h
abbrev qN(a b:List Nat)(c:Bool)(h:List PO):Prop:=Ow (.str a) (.str b) h=.ok (.bl c) h
theorem nek{a b:List Nat}(c:Bool)(e:(sg a&&sg b&&(decide (a=b) !=c))=true:=by decide)(h:List PO):Ow (.str a) (.str b) h=.ok (.bl c) h:=by
 simp only[acf]at e;rw[Ge a b h (gA e.1.1) (gA e.1.2)];have:=e.2
 cases c<;>simp_all
section
variable(h:List PO)
theorem tgs:qE tT tT true h∧qE tT tP false h∧qE tT tL false h∧qE tT tC false h∧qE tT tU false h∧qE tT tB false h∧qE tP tT false h∧qE tP tP true h∧qE tP tL false h∧qE tP tC false h∧qE tP tU false h∧qE tP tB false h∧qE tL tT false h∧qE tL tP false h∧qE tL tL true h∧qE tL tC false h∧qE tL tU false h∧qE tL tB false h∧qE tC tT false h∧qE tC tP false h∧qE tC tL false h∧qE tC tC true h∧qE tC tU false h∧qE tC tB false h∧qE tU tT false h∧qE tU tP false h∧qE tU tL false h∧qE tU tC false h∧qE tU tU true h∧qE tU tB false h∧qE tB tT false h∧qE tB tP false h∧qE tB tL false h∧qE tB tC false h∧qE tB tU false h∧qE tB tB true h:=by
 repeat' apply And.intro
 all_goals exact MK _ (h:=h)
theorem tgn:qN tT tU true h∧qN tP tU true h∧qN tL tU true h∧qN tC tU true h∧qN tU tU false h∧qN tB tU true h:=by
 repeat' apply And.intro
 all_goals exact nek _ (h:=h)
theorem Ig(n:Nd):b_ (nd n) (.int 0) h=.ok (.str (kT n)) h:=by cases n<;>(rw[nd];rfl)
theorem EH(p:Mz)(w:List Nat):b_ (nd (.place p w)) (.int 1) h=.ok (MF p) h∧b_ (nd (.place p w)) (.int 2) h=.ok (.str w) h:=by rw[nd];exact⟨rfl,rfl⟩
theorem EI(x:List Nat)(p:Mz)(b:G8)(t:List Nat):b_ (nd (.loop x p b t)) (.int 1) h=.ok (.str x) h∧b_ (nd (.loop x p b t)) (.int 2) h=.ok (MF p) h∧b_ (nd (.loop x p b t)) (.int 3) h=.ok (.tup (f9 b)) h∧b_ (nd (.loop x p b t)) (.int 4) h=.ok (.str t) h:=by rw[nd];exact⟨rfl,rfl,rfl,rfl⟩
theorem EJ(p:Mz)(y z:G8):b_ (nd (.choice p y z)) (.int 1) h=.ok (MF p) h∧b_ (nd (.choice p y z)) (.int 2) h=.ok (.tup (f9 y)) h∧b_ (nd (.choice p y z)) (.int 3) h=.ok (.tup (f9 z)) h:=by rw[nd];exact⟨rfl,rfl,rfl⟩
theorem EG(x:List Nat)(ps:List Mz):b_ (nd (.use x ps)) (.int 1) h=.ok (.str x) h∧b_ (nd (.use x ps)) (.int 2) h=.ok (.tup (bg ps)) h∧b_ (nd (.use x ps)) (.int 3) h=.ok .non h∧b_ (nd (.use x ps)) (.int 4) h=.ok .non h:=by rw[nd];exact⟨rfl,rfl,rfl,rfl⟩
theorem EF(x:List Nat)(ps:List Mz)(hs:List (List Nat))(b:G8):b_ (nd (.j4 x ps hs b)) (.int 1) h=.ok (.str x) h∧b_ (nd (.j4 x ps hs b)) (.int 2) h=.ok (.tup (bg ps)) h∧b_ (nd (.j4 x ps hs b)) (.int 3) h=.ok (nms hs) h∧b_ (nd (.j4 x ps hs b)) (.int 4) h=.ok (.tup (f9 b)) h:=by rw[nd];exact⟨rfl,rfl,rfl,rfl⟩
theorem EK(ps:List Mz):b_ (nd (.body ps)) (.int 1) h=.ok (.tup (bg ps)) h:=by rw[nd];rfl
variable(q:Pc)
theorem HX:b_ (pc q) (.int 1) h=.ok (.str q.n) h∧b_ (pc q) (.int 2) h=.ok (nms q.ns) h∧b_ (pc q) (.int 3) h=.ok (G_ q.m) h∧b_ (pc q) (.int 4) h=.ok (.tup (f9 q.b)) h:=by refine⟨rfl,rfl,?_,rfl⟩;show Res.ok (aj h (G_ q.m)) h=_;rw[jv]
theorem Eu:aj h (pc q)=pc q:=rfl
theorem ET(B:List Pc):aj h (bk B)=bk B:=rfl
theorem Eg(w:List Int):aj h (wy w)=wy w:=rfl
theorem wd(B:List Pc):bF [bk B] h=.ok (.int B.length) h:=by unfold bk;rw[qj,List.length_map]
theorem xn(l:List (List Nat)):bF [nms l] h=.ok (.int l.length) h:=by unfold nms;rw[qj,List.length_map]
end
theorem wX(l:List Mz):(bg l).length=l.length:=by unfold bg;rw[List.length_map]
theorem AV(l:List (List Nat)):gJ (nms l)=false:=rfl
theorem Ef(l:List Int):gJ (wy l)=false:=rfl
theorem AZ(m:Option Int):gJ (G_ m)=!m.isSome:=by cases m<;>rfl
theorem mls(x:Int):hZ 3 x=true∧hZ 5 x=true∧hZ 7 x=true∧hZ 12 x=true∧hZ 31 x=true∧hZ 7919 x=true∧hZ x 48271=true:=by refine⟨?_,?_,?_,?_,?_,?_,oG (by decide)⟩<;>exact Go (by decide)
local macro_rules | `(tactic| simp $c:optConfig only [EX,$xs,*])=>do let a←(("gF mI ET Eu Eg il jv HX O3 at1 at2 Ug Yb pH pG rR AH hJ Ig kt1 kt2 kt3 kt4 kt5 kt6 kt7 tgs tgn EH EI EJ EG EF EK wd xn wX AV Ef AZ mls".splitOn.map fun n=>n.toName)).toArray.mapM fun n=>`(Lean.Parser.Tactic.simpLemma| $(Lean.mkIdent n):term);`(tactic| simp $c:optConfig only [EV,$a,*,$xs,*])
theorem oy(k:Nat)(E:List Pc)(m:Option Int)(a c i:PV)(w:List Int)(ns:List (List Nat))(n:Nd)(f:List Int×List (List Nat)×G8→Option (List Int)):
  ∀(l:List (List Int×List (List Nat)×G8))(x8:Option PV),(∀x∈l,w.length+x.1.length≤10000∧ns.length+x.2.1.length≤100000∧X_ k .d8 [.tup (f9 x.2.2),wy (w++x.1),nms (ns++x.2.1),G_ m,.ref 0] [.dct (H_ E)]=xX E (f x))→
  ∃y8,aN (w6 8) (bM (F k) (X_ k)) (l.map fun x=>Rk x.1 x.2.1 x.2.2) [some a,some c,some (nms ns),some (G_ m),some (.ref 0),some i,some (nd n),some (wy w),x8] [.dct (H_ E)]=
   pJ E [some a,some c,some (nms ns),some (G_ m),some (.ref 0),some i,some (nd n),some (wy w),y8] (l.findSome? f)
 |[],x8,_=>⟨x8,rfl⟩
 |x::r,x8,hx=>by
  obtain⟨h1,h2,h3⟩:=hx x List.mem_cons_self;have one:=AF k E m a c i w x.1 ns x.2.1 x.2.2 n (f x) h1 h2 h3;obtain⟨y8,ih⟩:=oy k E m a c i w ns n f r (some (Rk x.1 x.2.1 x.2.2)) fun z hz=>hx z (List.mem_cons_of_mem _ hz);rw[List.map_cons,aN]
  cases e:f x with
  |none=>rw[e]at one;refine⟨y8,?_⟩;rw[List.findSome?_cons_of_isNone (by rw[e];rfl)];show(match bM (F k) (X_ k) [some a,some c,some (nms ns),some (G_ m),some (.ref 0),some i,some (nd n),some (wy w),some (Rk x.1 x.2.1 x.2.2)] [.dct (H_ E)]with|.nx ρ2 h2=>_|.ct ρ2 h2=>_|.bk ρ2 h2=>_|.rt v h2=>_|.exc v h2=>_|.bad=>_)=_;rw[one];exact ih
  |some v=>rw[e]at one;refine⟨x8,?_⟩;rw[List.findSome?_cons_of_isSome (by rw[e];rfl),e];show(match bM (F k) (X_ k) [some a,some c,some (nms ns),some (G_ m),some (.ref 0),some i,some (nd n),some (wy w),some (Rk x.1 x.2.1 x.2.2)] [.dct (H_ E)]with|.nx ρ2 h2=>_|.ct ρ2 h2=>_|.bk ρ2 h2=>_|.rt v h2=>_|.exc v h2=>_|.bad=>_)=_;rw[one];rfl
theorem DG(E:List Pc)(m:Option Int)(w:List Int)(ns:List (List Nat))(n:Nd):R9 E m w ns n=(prs n).findSome? fun x=>Qg E m (w++x.1) 0 (ns++x.2.1) x.2.2:=by
 cases n with
 |choice p y z=>
  rw[R9,prs,List.findSome?_cons,List.findSome?_cons,List.findSome?_nil];dsimp only;rw[List.append_nil]
  cases Qg E m (w++ [0]) 0 ns y with
  |some v=>rfl
  |none=>cases Qg E m (w++ [1]) 0 ns z<;>rfl
 |loop x p b t=>rw[R9,prs,List.findSome?_cons,List.findSome?_nil];dsimp only;rw[List.append_nil];cases Qg E m w 0 (ns++ [x]) b<;>rfl
 |j4 x p h b=>rw[R9,prs,List.findSome?_cons,List.findSome?_nil];dsimp only;rw[List.append_nil];cases Qg E m w 0 (ns++h) b<;>rfl
 |text s=>rfl
 |place p s=>rfl
 |use x p=>rfl
 |body p=>rfl
theorem AU(k:Nat)(E:List Pc)(m:Option Int)(a:PV)(w:List Int)(ns:List (List Nat))(i:Nat)(n:Nd)(x7 x8:Option PV)(hn:Mu ns=true)(hw:wN n=true)(lw:w.length+10≤10000)
  (hx:∀x∈prs n,(w++ [(i:Int)]).length+x.1.length≤10000∧ns.length+x.2.1.length≤100000∧X_ (k+3) .d8 [.tup (f9 x.2.2),wy (w++ [(i:Int)]++x.1),nms (ns++x.2.1),G_ m,.ref 0] [.dct (H_ E)]=xX E (Qg E m (w++ [(i:Int)]++x.1) 0 (ns++x.2.1) x.2.2)):
  ∃y7 y8,bv (F (k+3)) (L (k+3)) (X_ (k+3)) (Nat.ble 2 (k+3)) [some a,some (wy w),some (nms ns),some (G_ m),some (.ref 0),some (.int i),some (nd n),x7,x8] [.dct (H_ E)]=
   pJ E [some a,some (wy w),some (nms ns),some (G_ m),some (.ref 0),some (.int i),some (nd n),y7,y8] (if Nz E m ns n=true then some (w++ [(i:Int)])else R9 E m (w++ [(i:Int)]) ns n):=by
 have ad:aq (wy w) (.tup [.int i]) [.dct (H_ E)]=.ok (wy (w++ [(i:Int)])) [.dct (H_ E)]:=BY w [(i:Int)] _ (by simp;omega);have mp:(G_ m).pure=true:=by cases m<;>rfl
 have cw:cP (L (k+3) .Mh) [nd n,nms ns,G_ m,.ref 0] [.dct (H_ E)]=.ok (.bl (Nz E m ns n)) [.dct (H_ E)]:=
  (cL (fn:=L (k+3) .Mh) [nd n,nms ns,G_ m] (o:=.dct (H_ E)) (by simp[ai,bz,br,mp]) (lQ E)).1 _ rfl (zk k E m ns hn n hw)
 have cp:∀h,bj (F (k+3) .v5) [nd n] h=.ok (.lst ((prs n).map fun x=>Rk x.1 x.2.1 x.2.2)) h:=fun h=>aM h (by rw[ai,bz];rfl) (AE (k+2) n);have hz:Nat.ble 2 (k+3)=true:=by simp[Nat.ble]
 cases e:Nz E m ns n with
 |true=>rw[e]at cw;refine⟨some (wy (w++ [(i:Int)])),x8,?_⟩;simp only[EX,bv,ad,cw,jf _ _ _ _ _ hz,pJ]
 |false=>rw[e]at cw;obtain⟨y8,lp⟩:=oy (k+3) E m a (wy w) (.int i) (w++ [(i:Int)]) ns n (fun x=>Qg E m (w++ [(i:Int)]++x.1) 0 (ns++x.2.1) x.2.2) (prs n) x8 hx;rw[← DG]at lp;refine⟨some (wy (w++ [(i:Int)])),y8,?_⟩;simp only[EX,bv,ad,cw,cp,lp]
theorem Fc{n:Nd}(hw:wN n=true):∀x∈prs n,wS x.2.2=true∧Mu x.2.1=true∧dS x.2.2<dN n∧x.1.length≤1∧x.2.1.length≤60:=by
 intro x hx
 cases n with
 |loop y p b t=>
  rw[wN,acf,acf,acf]at hw
  cases List.mem_singleton.mp hx
  exact⟨hw.2.2.1,by simp[Mu,hw.1],by rw[dN];exact Nat.lt_succ_self _,Nat.zero_le _,by simp⟩
 |choice p y z=>
  rw[wN,acf,acf]at hw;rcases List.mem_cons.mp hx with e|e
  ·subst e;exact⟨hw.2.1,rfl,by rw[dN];exact Nat.lt_succ_of_le (Nat.le_max_left _ _),acg _,Nat.zero_le _⟩
  ·cases List.mem_singleton.mp e
   exact⟨hw.2.2,rfl,by rw[dN];exact Nat.lt_succ_of_le (Nat.le_max_right _ _),acg _,Nat.zero_le _⟩
 |j4 y p h b=>
  rw[wN,acf,acf,acf,acf]at hw
  cases List.mem_singleton.mp hx
  exact⟨hw.2.2.2.2,hw.2.2.1,by rw[dN];exact Nat.lt_succ_self _,Nat.zero_le _,Nat.le_of_lt (of_decide_eq_true hw.2.2.2.1)⟩
 |text s=>cases hx
 |place p s=>cases hx
 |use y p=>cases hx
 |body p=>cases hx
def xS(d:Nat):Prop:=∀(b:G8)(E:List Pc)(m:Option Int)(w:List Int)(ns:List (List Nat))(k:Nat),dS b≤d→wS b=true→Mu ns=true→dS b+4≤k→w.length+2 * dS b+10≤10000→ns.length+60 * dS b+60≤100000→
 X_ k .d8 [.tup (f9 b),wy w,nms ns,G_ m,.ref 0] [.dct (H_ E)]=xX E (Qg E m w 0 ns b)
theorem oE(d k:Nat)(ok:∀d',d'<d→xS d')(E:List Pc)(m:Option Int)(a:PV)(w:List Int)(ns:List (List Nat))(hn:Mu ns=true)(hk:d+4≤k+4)(lw:w.length+2 * d+10≤10000)(ln:ns.length+60 * d+60≤100000):
  ∀(b:G8)(j:Nat)(x5 x6 x7 x8:Option PV),dS b≤d→wS b=true→∃y5 y6 y7 y8,
   aN abT (bv (F (k+3)) (L (k+3)) (X_ (k+3)) (Nat.ble 2 (k+3))) (Od j (f9 b)) [some a,some (wy w),some (nms ns),some (G_ m),some (.ref 0),x5,x6,x7,x8] [.dct (H_ E)]=
    pJ E [some a,some (wy w),some (nms ns),some (G_ m),some (.ref 0),y5,y6,y7,y8] (Qg E m w j ns b)
 |.nil,j,x5,x6,x7,x8,_,_=>⟨x5,x6,x7,x8,by rw[f9,Od,aN,Qg];rfl⟩
 |.cons n r,j,x5,x6,x7,x8,hd,hw=>by
  rw[dS]at hd;rw[wS,acf]at hw;have dn:dN n≤d:=Nat.le_trans (Nat.le_max_left _ _) hd;have dr:dS r≤d:=Nat.le_trans (Nat.le_max_right _ _) hd
  obtain⟨y7,y8,one⟩:=AU k E m a w ns j n x7 x8 hn hw.1 (by omega) fun x hx=>by
   obtain⟨h1,h2,h3,h4,h5⟩:=Fc hw.1 x hx;have l1:(w++ [(j:Int)]).length=w.length+1:=by simp
   refine⟨by omega,by omega,ok (dS x.2.2) (by omega) x.2.2 E m _ _ (k+3) (acg _) h1 (jL hn h2) (by omega) ?_ ?_⟩
   ·rw[List.length_append,l1];omega
   ·rw[List.length_append];omega
  have st:∀(R:SR),bv (F (k+3)) (L (k+3)) (X_ (k+3)) (Nat.ble 2 (k+3)) [some a,some (wy w),some (nms ns),some (G_ m),some (.ref 0),some (.int j),some (nd n),x7,x8] [.dct (H_ E)]=R→
    aN abT (bv (F (k+3)) (L (k+3)) (X_ (k+3)) (Nat.ble 2 (k+3))) (Od j (nd n::f9 r)) [some a,some (wy w),some (nms ns),some (G_ m),some (.ref 0),x5,x6,x7,x8] [.dct (H_ E)]=
    match R with
    |.nx ρ2 h2=>aN abT (bv (F (k+3)) (L (k+3)) (X_ (k+3)) (Nat.ble 2 (k+3))) (Od (j+1) (f9 r)) ρ2 h2
    |.ct ρ2 h2=>aN abT (bv (F (k+3)) (L (k+3)) (X_ (k+3)) (Nat.ble 2 (k+3))) (Od (j+1) (f9 r)) ρ2 h2
    |.bk ρ2 h2=>.nx ρ2 h2
    |.rt v h2=>.rt v h2
    |.exc v h2=>.exc v h2
    |.bad=>.bad:=fun R e=>by subst e;rfl
  rw[f9,st _ one,Qg]
  cases e:Nz E m ns n with
  |true=>exact⟨x5,x6,x7,x8,rfl⟩
  |false=>
   rw[if_neg (by decide),if_neg (by decide)]
   cases e2:R9 E m (w++ [(j:Int)]) ns n with
   |some v=>exact⟨x5,x6,x7,x8,rfl⟩
   |none=>exact oE d k ok E m a w ns hn hk lw ln r (j+1) (some (.int j)) (some (nd n)) y7 y8 dr hw.2
theorem AS:∀d,xS d:=by
 intro d
 induction d using Nat.strongRecOn with
 |ind d ih=>
  intro b E m w ns k hd hw hn hk lw ln;obtain⟨k',rfl⟩:∃k',k=k'+4:=⟨k - 4,by omega⟩
  have lp:=oE (dS b) k' (fun d' h=>ih d' (by omega)) E m (.tup (f9 b)) w ns hn hk lw ln b 0 none none none none (acg _) hw;obtain⟨y5,y6,y7,y8,lp⟩:=lp;show mR (de (F (k'+3)) (L (k'+3)) (X_ (k'+3)) (Nat.ble 2 (k'+3))) 5 9 [.tup (f9 b),wy w,nms ns,G_ m,.ref 0] [.dct (H_ E)]=_;have ru:de (F (k'+3)) (L (k'+3)) (X_ (k'+3)) (Nat.ble 2 (k'+3)) [some (.tup (f9 b)),some (wy w),some (nms ns),some (G_ m),some (.ref 0),none,none,none,none] [.dct (H_ E)]=pJ E [some (.tup (f9 b)),some (wy w),some (nms ns),some (G_ m),some (.ref 0),y5,y6,y7,y8] (Qg E m w 0 ns b):=lp
  have r2:mR (de (F (k'+3)) (L (k'+3)) (X_ (k'+3)) (Nat.ble 2 (k'+3))) 5 9 [.tup (f9 b),wy w,nms ns,G_ m,.ref 0] [.dct (H_ E)]=match de (F (k'+3)) (L (k'+3)) (X_ (k'+3)) (Nat.ble 2 (k'+3)) [some (.tup (f9 b)),some (wy w),some (nms ns),some (G_ m),some (.ref 0),none,none,none,none] [.dct (H_ E)]with
   |.nx _ h1=>gk 1 .non h1
   |.rt v h1=>dX 1 v h1
   |.exc e h1=>sD 1 e h1
   |_=>.bad:=rfl
  have ep:=lQ E;rw[r2,ru]
  cases Qg E m w 0 ns b with
  |none=>simp[pJ,xX,gk,bN,ep]
  |some v=>
   have:(PV.Og 6 (wy v)).pure=true:=by rw[PV.pure];exact bS v
   simp[pJ,xX,sD,bN,ep,this]
theorem ub(q:Pc)(E:List Pc)(h:(E.map (·.n)).contains q.n=false):lG (H_ E) (.inr q.n) (pc q)=H_ (E++ [q]):=by
 have a:((H_ E).any fun kv=>decide (kv.1=.inr q.n))=false:=by
  rw[List.any_eq_false];intro kv hk;obtain⟨p,hp,rfl⟩:=List.mem_map.mp hk;intro z;have e:p.n=q.n:=Sum.inr.inj (of_decide_eq_true z);have:(E.map (·.n)).contains q.n=true:=by rw[List.contains_iff_mem,← e];exact List.mem_map.mpr ⟨p,hp,rfl⟩
  rw[h]at this;cases this
 unfold lG;rw[a,if_neg (by decide)];unfold H_;rw[List.map_append];rfl
theorem oJ(E:List Pc)(n:List Nat):(look E n).isSome=(E.map (·.n)).contains n:=by
 unfold look
 induction E with
 |nil=>rfl
 |cons q r ih=>
  rw[List.map_cons,List.contains_cons,List.find?_cons]
  cases e:q.n==n with
  |true=>have:q.n=n:=eq_of_beq e;subst this;simp
  |false=>
   have:(n==q.n)=false:=by rw[beq_eq_false_iff_ne];intro z;subst z;simp at e
   rw[this,Bool.false_or];exact ih
theorem jd(n:List Nat)(E:List Pc)(r:List PO):Rz (.str n) (.ref 0) (.dct (H_ E)::r)=.ok (.bl ((E.map (·.n)).contains n)) (.dct (H_ E)::r):=by show(match some (iM (H_ E) (.inr n)).isSome with|some b=>Res.ok (PV.bl b) (.dct (H_ E)::r)|none=>Res.bad)=_;rw[lm,Option.isSome_map,oJ]
def wC(q:Pc):Bool:=sg q.n&&(Mu q.ns&&(decide (q.ns.length<60)&&(wS q.b&&decide (dS q.b≤20))))
def DN(ρ:Ev)(E:List Pc):Option (List Int)→SR
 |none=>.nx ρ [.dct (H_ E)]
 |some w=>.exc (.Og 6 (wy w)) [.dct (H_ E)]
theorem yq(k:Nat)(B:List Pc)(E:List Pc)(q:Pc)(hw:wC q=true)(hk:44≤k)(lE:E.length≤1000)(x4:Option PV):
  ∃y4,(if((E.map (·.n)).contains q.n||dup q.ns||(decide (E.length+1=B.length)&&q.m.isSome))=true then
   aI (F k) (X_ k) (Nat.ble 2 k) [some (bk B),some (.ref 0),some (.int E.length),some (pc q),x4] [.dct (H_ E)]=.exc (.Og 6 (wy [(E.length:Int)])) [.dct (H_ E)]
  else match Qg E q.m [(E.length:Int)] 0 q.ns q.b with
   |some w=>aI (F k) (X_ k) (Nat.ble 2 k) [some (bk B),some (.ref 0),some (.int E.length),some (pc q),x4] [.dct (H_ E)]=.exc (.Og 6 (wy w)) [.dct (H_ E)]
   |none=>aI (F k) (X_ k) (Nat.ble 2 k) [some (bk B),some (.ref 0),some (.int E.length),some (pc q),x4] [.dct (H_ E)]=.nx [some (bk B),some (.ref 0),some (.int E.length),some (pc q),y4] [.dct (H_ (E++ [q]))]):=by
 simp only[wC,acf,decide_eq_true_eq]at hw;obtain⟨w1,w2,w3,w4,w5⟩:=hw
 have p3:∀h,b_ (pc q) (.int 3) h=.ok (G_ q.m) h:=fun h=>by show Res.ok (aj h (G_ q.m)) h=_;rw[jv]
 have el:decide ((E.length:Int)=(B.length:Int) - 1)=decide (E.length+1=B.length):=by
  by_cases e:E.length+1=B.length
  ·rw[decide_eq_true e];exact decide_eq_true (by omega)
  ·rw[decide_eq_false e];exact decide_eq_false (by omega)
 obtain⟨k',rfl⟩:∃k',k=k'+1:=⟨k - 1,by omega⟩
 have tw:∀h,bj (F (k'+1) .J3) [nms q.ns] h=.ok (.bl (dup q.ns)) h:=fun h=>aM h (by rw[ai,br];rfl) (tx k' q.ns w3);have hz:Nat.ble 2 (k'+1)=true:=by simp[Nat.ble];omega
 have mp:(G_ q.m).pure=true:=by cases q.m<;>rfl
 have nk:=AS (dS q.b) q.b E q.m [(E.length:Int)] q.ns (k'+1) (acg _) w4 w2 (by omega) (by simp;omega) (by omega);obtain⟨c1,c2⟩:=cL (fn:=X_ (k'+1) .d8) [.tup (f9 q.b),wy [(E.length:Int)],nms q.ns,G_ q.m] (o:=.dct (H_ E)) (by simp[ai,PV.pure,aY q.b,bS,br,mp]) (lQ E);have sz:(H_ E).length<16777216:=by unfold H_;rw[List.length_map];omega
 cases h1:(E.map (·.n)).contains q.n with
 |true=>refine⟨x4,?_⟩;rw[if_pos (by simp)];simp only[EX,aI,el,jd,h1,jf _ _ _ _ _ hz];rfl
 |false=>
  cases h2:dup q.ns with
  |true=>refine⟨x4,?_⟩;rw[if_pos (by simp)];simp only[EX,aI,el,jd,h1,tw,h2,jf _ _ _ _ _ hz];rfl
  |false=>
   have go:aI (F (k'+1)) (X_ (k'+1)) (Nat.ble 2 (k'+1)) [some (bk B),some (.ref 0),some (.int E.length),some (pc q),x4] [.dct (H_ E)]=
     if(decide (E.length+1=B.length)&&q.m.isSome)=true then .exc (.Og 6 (wy [(E.length:Int)])) [.dct (H_ E)]else
     match Qg E q.m [(E.length:Int)] 0 q.ns q.b with
     |some w=>.exc (.Og 6 (wy w)) [.dct (H_ E)]
     |none=>.nx [some (bk B),some (.ref 0),some (.int E.length),some (pc q),some (.bl (decide (E.length+1=B.length)))] [.dct (H_ (E++ [q]))]:=by
    cases h3:decide (E.length+1=B.length)&&q.m.isSome with
    |true=>rw[acf]at h3;rw[if_pos rfl];simp only[EX,aI,p3,el,jd,h1,tw,h2,h3.1,h3.2,jf _ _ _ _ _ hz];rfl
    |false=>
     rw[if_neg (by decide)]
     cases e:Qg E q.m [(E.length:Int)] 0 q.ns q.b with
     |some w=>
      rw[e]at nk;have cc:=c2 (.Og 6 (wy w)) (by rw[PV.pure];exact bS w) nk;simp only[List.cons_append,List.nil_append]at cc;have Xb:cP (X_ (k'+1) .d8) [.tup (f9 q.b),.tup [.int E.length],nms q.ns,G_ q.m,.ref 0] [.dct (H_ E)]=.exc (.Og 6 (wy w)) [.dct (H_ E)]:=cc
      cases d:decide (E.length+1=B.length)with
      |false=>simp only[EX,aI,p3,el,jd,h1,tw,h2,d,Xb,Res.N5]
      |true=>rw[d,Bool.true_and]at h3;simp only[EX,aI,p3,el,jd,h1,tw,h2,d,h3,Xb,Res.N5]
     |none=>
      rw[e]at nk;have cc:=c1 .non rfl nk;simp only[List.cons_append,List.nil_append]at cc;have Xb:cP (X_ (k'+1) .d8) [.tup (f9 q.b),.tup [.int E.length],nms q.ns,G_ q.m,.ref 0] [.dct (H_ E)]=.ok .non [.dct (H_ E)]:=cc
      cases d:decide (E.length+1=B.length)with
      |false=>simp only[EX,aI,p3,el,jd,h1,tw,h2,d,Xb,sz,ub q E h1]
      |true=>rw[d,Bool.true_and]at h3;simp only[EX,aI,p3,el,jd,h1,tw,h2,d,h3,Xb,sz,ub q E h1]
   refine⟨some (.bl (decide (E.length+1=B.length))),?_⟩;rw[Bool.false_or,Bool.false_or,go]
   split
   ·rfl
   ·cases Qg E q.m [(E.length:Int)] 0 q.ns q.b<;>rfl
theorem oF(k:Nat)(B:List Pc)(hk:44≤k)(lB:B.length≤1000):∀(r E:List Pc)(x2 x3 x4:Option PV),E.length+r.length=B.length→(∀q∈r,wC q=true)→∃y2 y3 y4 E',
  aN aat (aI (F k) (X_ k) (Nat.ble 2 k)) (Od E.length (r.map pc)) [some (bk B),some (.ref 0),x2,x3,x4] [.dct (H_ E)]=DN [some (bk B),some (.ref 0),y2,y3,y4] E' (QT B.length E r)
 |[],E,x2,x3,x4,_,_=>⟨x2,x3,x4,E,by rw[List.map_nil,Od,aN,QT];rfl⟩
 |q::r,E,x2,x3,x4,hl,hw=>by
  rw[List.length_cons]at hl;obtain⟨y4,one⟩:=yq k B E q (hw q List.mem_cons_self) hk (by omega) x4
  have st:∀(R:SR),aI (F k) (X_ k) (Nat.ble 2 k) [some (bk B),some (.ref 0),some (.int E.length),some (pc q),x4] [.dct (H_ E)]=R→
    aN aat (aI (F k) (X_ k) (Nat.ble 2 k)) (Od E.length (pc q::r.map pc)) [some (bk B),some (.ref 0),x2,x3,x4] [.dct (H_ E)]=
    match R with
    |.nx ρ2 h2=>aN aat (aI (F k) (X_ k) (Nat.ble 2 k)) (Od (E.length+1) (r.map pc)) ρ2 h2
    |.ct ρ2 h2=>aN aat (aI (F k) (X_ k) (Nat.ble 2 k)) (Od (E.length+1) (r.map pc)) ρ2 h2
    |.bk ρ2 h2=>.nx ρ2 h2
    |.rt v h2=>.rt v h2
    |.exc v h2=>.exc v h2
    |.bad=>.bad:=fun R e=>by subst e;rfl
  rw[List.map_cons,QT]
  split at one
  ·rename_i c;rw[st _ one,if_pos c];exact⟨x2,x3,x4,E,rfl⟩
  ·rename_i c;rw[if_neg c]
   split at one
   ·rename_i w e;rw[st _ one,e];exact⟨x2,x3,x4,E,rfl⟩
   ·rename_i e;rw[st _ one,e];have l1:(E++ [q]).length=E.length+1:=by simp
    have ih:=oF k B hk lB r (E++ [q]) (some (.int E.length)) (some (pc q)) y4 (by rw[l1];omega) fun z hz=>hw z (List.mem_cons_of_mem _ hz);rw[l1]at ih;exact ih
theorem AX(k:Nat)(B:List Pc)(hk:44≤k)(lB:B.length≤1000)(hw:∀q∈B,wC q=true):X_ (k+1) .j7 [bk B] []=match QT B.length [] B with|none=>.ok .non []|some w=>.exc (.Og 6 (wy w)) []:=by
 obtain⟨y2,y3,y4,E',lp⟩:=oF k B hk lB B [] none none none (by simp) hw;show mR (df (F k) (X_ k) (Nat.ble 2 k)) 1 5 [bk B] []=_;have ru:df (F k) (X_ k) (Nat.ble 2 k) [some (bk B),none,none,none,none] []=DN [some (bk B),some (.ref 0),y2,y3,y4] E' (QT B.length [] B):=lp
 have r2:mR (df (F k) (X_ k) (Nat.ble 2 k)) 1 5 [bk B] []=match df (F k) (X_ k) (Nat.ble 2 k) [some (bk B),none,none,none,none] []with
   |.nx _ h1=>gk 0 .non h1
   |.rt v h1=>dX 0 v h1
   |.exc e h1=>sD 0 e h1
   |_=>.bad:=rfl
 rw[r2,ru]
 cases QT B.length [] B with
 |none=>simp[DN,gk,bN]
 |some v=>
  have:(PV.Og 6 (wy v)).pure=true:=by rw[PV.pure];exact bS v
  simp[DN,sD,bN,this]
abbrev TY:=List Int×Nd×List (List Nat)
mutual
def Qa(w:List Int)(ns:List (List Nat)):Nd→List TY
 |.loop n _ b _=>spS w 0 (ns++ [n]) b
 |.choice _ y n=>spS (w++ [0]) 0 ns y++spS (w++ [1]) 0 ns n
 |.j4 _ _ h b=>spS w 0 (ns++h) b
 |_=> []
def spS(w:List Int)(k:Nat)(ns:List (List Nat)):G8→List TY
 |.nil=> []
 |.cons n r=>(w++ [(k:Int)],n,ns)::(Qa (w++ [(k:Int)]) ns n++spS w (k+1) ns r)
end
mutual
def Ma:Nd→Nat
 |.loop _ _ b _=>K4 b
 |.choice _ y n=>K4 y+K4 n
 |.j4 _ _ _ b=>K4 b
 |_=>0
def K4:G8→Nat
 |.nil=>0
 |.cons n r=>Ma n+1+K4 r
end
mutual
theorem qP(w:List Int)(ns:List (List Nat)):∀n:Nd,(Qa w ns n).length=Ma n
 |.loop n _ b _=>by rw[Qa,Ma];exact et _ _ _ b
 |.choice _ y n=>by rw[Qa,Ma,List.length_append,et _ _ _ y,et _ _ _ n]
 |.j4 _ _ h b=>by rw[Qa,Ma];exact et _ _ _ b
 |.text _=>rfl
 |.place _ _=>rfl
 |.use _ _=>rfl
 |.body _=>rfl
theorem et(w:List Int)(k:Nat)(ns:List (List Nat)):∀b:G8,(spS w k ns b).length=K4 b
 |.nil=>rfl
 |.cons n r=>by rw[spS,K4,List.length_cons,List.length_append,qP _ _ n,et _ _ _ r];omega
end
mutual
theorem GD(E:List Pc)(m:Option Int)(w:List Int)(ns:List (List Nat)):∀n:Nd,R9 E m w ns n=((Qa w ns n).find? fun x=>Nz E m x.2.2 x.2.1).map (·.1)
 |.loop n _ b _=>by rw[R9,Qa];exact mD E m _ _ _ b
 |.choice _ y n=>by
  rw[R9,Qa,List.find?_append,mD E m _ _ _ y,mD E m _ _ _ n]
  cases(spS (w++ [0]) 0 ns y).find? fun x=>Nz E m x.2.2 x.2.1<;>rfl
 |.j4 _ _ h b=>by rw[R9,Qa];exact mD E m _ _ _ b
 |.text _=>rfl
 |.place _ _=>rfl
 |.use _ _=>rfl
 |.body _=>rfl
theorem mD(E:List Pc)(m:Option Int)(w:List Int)(k:Nat)(ns:List (List Nat)):∀b:G8,Qg E m w k ns b=((spS w k ns b).find? fun x=>Nz E m x.2.2 x.2.1).map (·.1)
 |.nil=>rfl
 |.cons n r=>by
  rw[Qg,spS,List.find?_cons];dsimp only
  cases e:Nz E m ns n with
  |true=>rfl
  |false=>
   rw[if_neg (by decide),List.find?_append,GD E m _ _ n,mD E m _ _ _ r];dsimp only
   cases(Qa (w++ [(k:Int)]) ns n).find? fun x=>Nz E m x.2.2 x.2.1<;>rfl
end
def Mf(x:TY):PV:=.tup [wy x.1,nd x.2.1,nms x.2.2]
theorem zz(x:TY):(Mf x).pure=true:=by unfold Mf;simp[PV.pure,ai,bS,bz,br]
theorem qO:∀l:List TY,ai (l.map Mf)=true
 |[]=>rfl
 |x::r=>by rw[List.map_cons,ai,zz,qO r];rfl
theorem yH(k:Nat)(n:Nd):F (k+1) .J_ [nd n]=.ok (.lst (bg (pa n))):=by
 show aW (bP (F k)) 1 1 [nd n]=_
 have hz:∀a∈ [tT,tP,tL,tC,tU,tB],∀h,Rz (.str a) (.tup [.str tP,.str tC]) h=.ok (.bl (decide (a∈ [tP,tC]))) h:=fun a ha h=>by
  have l2:∀l∈ [tP,tC],∀c∈l,c<1114112:=by decide
  have l1:∀l∈ [tT,tP,tL,tC,tU,tB],∀c∈l,c<1114112:=by decide
  exact Iw (ls:=[tP,tC]) (l1 a ha) l2 h
 have fin:∀l:List Mz,cr (.lst (bg l)) []=.ok (.lst (bg l)):=fun l=>bD (by rw[PV.pure];exact aK l)
 cases n with
 |text s=>simp only[EX,nd,aW,bP,hz tT (by decide),show decide (tT∈ [tP,tC])=false by decide];exact fin []
 |place p w=>simp only[EX,nd,aW,bP,hz tP (by decide),show decide (tP∈ [tP,tC])=true by decide];exact fin [p]
 |loop x p b t=>simp only[EX,nd,aW,bP,hz tL (by decide),show decide (tL∈ [tP,tC])=false by decide];exact fin [p]
 |choice p y z=>simp only[EX,nd,aW,bP,hz tC (by decide),show decide (tC∈ [tP,tC])=true by decide];exact fin [p]
 |use x ps=>simp only[EX,nd,aW,bP,hz tU (by decide),show decide (tU∈ [tP,tC])=false by decide];exact fin ps
 |j4 x ps hh b=>simp only[EX,nd,aW,bP,hz tU (by decide),show decide (tU∈ [tP,tC])=false by decide];exact fin ps
 |body ps=>simp only[EX,nd,aW,bP,hz tB (by decide),show decide (tB∈ [tP,tC])=false by decide];exact fin ps
section
variable{h:List PO}{i:Nat}{acc:List PV}
theorem DO(e:h[i]? =some (.lst acc)):aj h (.ref i)=.ref i:=by show(match h[i]? with|some (.K3 q)=>q|_=>PV.ref i)=_;rw[e]
theorem Iv(e:h[i]? =some (.lst acc)):dU h (.ref i)=true:=by unfold dU;simp[Ro,Rp,e]
theorem BU(e:h[i]? =some (.lst acc))(x:PV)(hl:acc.length<16000000):bV (.ref i) [x] h=.ok .non (h.set i (.lst (acc++ [x]))):=by
 have e2:mM h (.ref i)=some (i,acc):=by unfold mM;simp only[e]
 unfold bV;rw[e2];dsimp only;rw[if_pos (Nat.lt_trans hl (by decide))]
theorem BZ(e:h[i]? =some (.lst acc))(ys:List PV)(hl:acc.length+ys.length≤16000000):ko (.ref i) (.lst ys) h=.ok (.ref h.length) (h++ [.lst (acc++ys)]):=by unfold ko;simp only[Rp,e];rw[if_pos (Nat.le_trans hl (by decide))]
theorem Cb(e:h[i]? =some (.lst acc))(ys:List PV)(hl:acc.length+ys.length≤16000000):aq (.ref i) (.lst ys) h=.ok (.lst (acc++ys)) h:=by show vF (.ref i) (.lst ys) h=_;unfold vF;simp only[Rp,e];rw[if_pos (Nat.le_trans hl (by decide))]
theorem DX(xs ys:List PV)(hl:xs.length+ys.length≤16000000):ko (.lst xs) (.lst ys) h=.ok (.ref h.length) (h++ [.lst (xs++ys)]):=by unfold ko;simp only[Rp];rw[if_pos (Nat.le_trans hl (by decide))]
end
theorem rY{h:List PO}{o:PO}:(h++ [o])[h.length]? =some o:=by simp
theorem DF{h:List PO}{i:Nat}{o o':PO}(e:h[i]? =some o):(h.set i o')[i]? =some o':=by have hi:i<h.length:=(List.getElem?_eq_some_iff.mp e).1;rw[List.getElem?_set_self hi]
def sR(d:Nat):Prop:=∀(b:G8)(w:List Int)(ns:List (List Nat))(k:Nat),dS b≤d→dS b+1≤k→w.length+2 * dS b+10≤10000→ns.length+60 * dS b+60≤100000→wS b=true→K4 b≤1000000→
 F k .E_ [.tup (f9 b),wy w,nms ns]=.ok (.lst ((spS w 0 ns b).map Mf))
theorem zw(d k:Nat)(ok:∀d',d'<d→sR d')(a:PV)(w:List Int)(ns:List (List Nat))(j:Nat)(n:Nd)(hd:dN n≤d)(hk:d≤k)(lw:w.length+2 * d+10≤10000)(ln:ns.length+60 * d+60≤100000)(hw:wN n=true)(hc:Ma n≤1000000)
  (h:List PO) (i:Nat) (acc:List PV) (e:h[i]? =some (.lst acc)) (la:acc.length≤10000000):∃h' i',
  bI (F k) [some a,some (wy w),some (nms ns),some (.ref i),some (.int j),some (nd n)] h=.nx [some a,some (wy w),some (nms ns),some (.ref i'),some (.int j),some (nd n)] h'∧
   h'[i']? =some (.lst (acc++Mf (w++ [(j:Int)],n,ns)::(Qa (w++ [(j:Int)]) ns n).map Mf)):=by
 have l1:(w++ [(j:Int)]).length=w.length+1:=by simp
 have ad:∀h,aq (wy w) (.tup [.int j]) h=.ok (wy (w++ [(j:Int)])) h:=fun h=>BY w [(j:Int)] _ (by simp;omega)
 have ad2:∀h (z:Int),aq (wy w) (.tup [.int j,.int z]) h=.ok (wy (w++ [(j:Int)]++[z])) h:=fun h z=>by have:=BY w [(j:Int),z] h (by simp;omega);rw[show w++ [(j:Int)]++[z]=w++ [(j:Int),z] by simp];exact this
 have Vs:dU h (.ref i)=true:=Iv e;have ap:=BU e (Mf (w++ [(j:Int)],n,ns)) (by omega);have Vf:bV (.ref i) [.tup [wy (w++ [(j:Int)]),nd n,nms ns]] h=.ok .non (h.set i (.lst (acc++ [Mf (w++ [(j:Int)],n,ns)]))):=ap;have e2:(h.set i (.lst (acc++ [Mf (w++ [(j:Int)],n,ns)])))[i]? =some (.lst (acc++ [Mf (w++ [(j:Int)],n,ns)])):=DF e;generalize hh:h.set i (.lst (acc++ [Mf (w++ [(j:Int)],n,ns)]))=h2 at Vf e2;have Xz:(acc++ [Mf (w++ [(j:Int)],n,ns)]).length=acc.length+1:=by simp
 have d1:=DO e;have d2:=DO e2
 cases n with
 |text s=>exact⟨h2,i,by simp only[EX,bI,d1,Vs,ad,Vf],e2⟩
 |place p s=>exact⟨h2,i,by simp only[EX,bI,d1,Vs,ad,Vf],e2⟩
 |body p=>exact⟨h2,i,by simp only[EX,bI,d1,Vs,ad,Vf],e2⟩
 |use x p=>exact⟨h2,i,by simp only[EX,bI,d1,Vs,ad,Vf],e2⟩
 |loop x p b t=>rw[dN]at hd;rw[wN,acf,acf,acf]at hw;rw[Ma]at hc;have sk:=ok (dS b) (by omega) b (w++ [(j:Int)]) (ns++ [x]) k (acg _) (by omega) (by rw[l1];omega) (by simp;omega) hw.2.2.1 hc;have cs:∀h,bj (F k .E_) [.tup (f9 b),wy (w++ [(j:Int)]),nms (ns++ [x])] h=.ok (.lst ((spS (w++ [(j:Int)]) 0 (ns++ [x]) b).map Mf)) h:=fun h=>aM h (by simp[ai,PV.pure,aY b,bS,br]) sk;have an:∀h,aq (nms ns) (.tup [.str x]) h=.ok (nms (ns++ [x])) h:=fun h=>uV ns [x] h (by simp;omega);have am:=BZ e2 ((spS (w++ [(j:Int)]) 0 (ns++ [x]) b).map Mf) (by rw[Xz,List.length_map,et];omega);refine⟨h2++ [.lst (acc++ [Mf (w++ [(j:Int)],.loop x p b t,ns)]++(spS (w++ [(j:Int)]) 0 (ns++ [x]) b).map Mf)],h2.length,?_,by rw[rY,Qa,List.append_assoc];rfl⟩;simp only[EX,bI,d1,d2,Vs,ad,Vf,an,cs,am]
 |choice p y z=>rw[dN]at hd;rw[wN,acf,acf]at hw;rw[Ma]at hc;have my:=Nat.le_max_left (dS y) (dS z);have mz:=Nat.le_max_right (dS y) (dS z);have sy:=ok (dS y) (by omega) y (w++ [(j:Int)]++[0]) ns k (acg _) (by omega) (by rw[List.length_append,l1];simp;omega) (by omega) hw.2.1 (by omega);have sz:=ok (dS z) (by omega) z (w++ [(j:Int)]++[1]) ns k (acg _) (by omega) (by rw[List.length_append,l1];simp;omega) (by omega) hw.2.2 (by omega);have cy:∀h,bj (F k .E_) [.tup (f9 y),wy (w++ [(j:Int)]++[0]),nms ns] h=.ok (.lst ((spS (w++ [(j:Int)]++[0]) 0 ns y).map Mf)) h:=fun h=>aM h (by simp[ai,PV.pure,aY y,bS,br]) sy;have cz:∀h,bj (F k .E_) [.tup (f9 z),wy (w++ [(j:Int)]++[1]),nms ns] h=.ok (.lst ((spS (w++ [(j:Int)]++[1]) 0 ns z).map Mf)) h:=fun h=>aM h (by simp[ai,PV.pure,aY z,bS,br]) sz;have a1:=Cb e2 ((spS (w++ [(j:Int)]++[0]) 0 ns y).map Mf) (by rw[Xz,List.length_map,et];omega);have am:=DX (h:=h2) (acc++ [Mf (w++ [(j:Int)],.choice p y z,ns)]++(spS (w++ [(j:Int)]++[0]) 0 ns y).map Mf) ((spS (w++ [(j:Int)]++[1]) 0 ns z).map Mf) (by rw[List.length_append,Xz,List.length_map,List.length_map,et,et];omega);refine⟨h2++ [.lst (acc++ [Mf (w++ [(j:Int)],.choice p y z,ns)]++(spS (w++ [(j:Int)]++[0]) 0 ns y).map Mf++(spS (w++ [(j:Int)]++[1]) 0 ns z).map Mf)],h2.length,?_,by rw[rY,Qa,List.map_append,List.append_assoc,List.append_assoc];rfl⟩;simp only[EX,bI,d1,d2,Vs,ad,ad2,Vf,cy,cz,a1,am]
 |j4 x p hs b=>rw[dN]at hd;rw[wN,acf,acf,acf,acf]at hw;rw[Ma]at hc;have lh:=of_decide_eq_true hw.2.2.2.1;have sk:=ok (dS b) (by omega) b (w++ [(j:Int)]) (ns++hs) k (acg _) (by omega) (by rw[l1];omega) (by rw[List.length_append];omega) hw.2.2.2.2 hc;have cs:∀h,bj (F k .E_) [.tup (f9 b),wy (w++ [(j:Int)]),nms (ns++hs)] h=.ok (.lst ((spS (w++ [(j:Int)]) 0 (ns++hs) b).map Mf)) h:=fun h=>aM h (by simp[ai,PV.pure,aY b,bS,br]) sk;have an:∀h,aq (nms ns) (nms hs) h=.ok (nms (ns++hs)) h:=fun h=>uV ns hs h (by omega);have am:=BZ e2 ((spS (w++ [(j:Int)]) 0 (ns++hs) b).map Mf) (by rw[Xz,List.length_map,et];omega);refine⟨h2++ [.lst (acc++ [Mf (w++ [(j:Int)],.j4 x p hs b,ns)]++(spS (w++ [(j:Int)]) 0 (ns++hs) b).map Mf)],h2.length,?_,by rw[rY,Qa,List.append_assoc];rfl⟩;simp only[EX,bI,d1,d2,Vs,ad,Vf,an,cs,am]
theorem nQ(d k:Nat)(ok:∀d',d'<d→sR d')(a:PV)(w:List Int)(ns:List (List Nat))(hk:d≤k)(lw:w.length+2 * d+10≤10000)(ln:ns.length+60 * d+60≤100000):
  ∀(b:G8)(j:Nat)(h:List PO)(i:Nat)(acc:List PV)(x4 x5:Option PV),dS b≤d→wS b=true→K4 b≤1000000→h[i]? =some (.lst acc)→acc.length+K4 b≤2000000→∃h' i' y4 y5,
   aN aa_ (bI (F k)) (Od j (f9 b)) [some a,some (wy w),some (nms ns),some (.ref i),x4,x5] h=.nx [some a,some (wy w),some (nms ns),some (.ref i'),y4,y5] h'∧
    h'[i']? =some (.lst (acc++(spS w j ns b).map Mf))
 |.nil,j,h,i,acc,x4,x5,_,_,_,e,_=>⟨h,i,x4,x5,by rw[f9,Od,aN],by rw[e,spS];simp⟩
 |.cons n r,j,h,i,acc,x4,x5,hd,hw,hc,e,hl=>by
  rw[dS]at hd;rw[wS,acf]at hw;rw[K4]at hc hl;have dn:dN n≤d:=Nat.le_trans (Nat.le_max_left _ _) hd;have dr:dS r≤d:=Nat.le_trans (Nat.le_max_right _ _) hd;obtain⟨h1,i1,one,e1⟩:=zw d k ok a w ns j n dn hk lw ln hw.1 (by omega) h i acc e (by omega)
  have la:(acc++Mf (w++ [(j:Int)],n,ns)::(Qa (w++ [(j:Int)]) ns n).map Mf).length=acc.length+1+Ma n:=by rw[List.length_append,List.length_cons,List.length_map,qP];omega
  obtain⟨h2,i2,y4,y5,lp,e2⟩:=nQ d k ok a w ns hk lw ln r (j+1) h1 i1 _ (some (.int j)) (some (nd n)) dr hw.2 (by omega) e1 (by omega);refine⟨h2,i2,y4,y5,?_,?_⟩
  ·rw[f9,Od,aN];show(match bI (F k) [some a,some (wy w),some (nms ns),some (.ref i),some (.int j),some (nd n)] h with|.nx ρ2 h2=>_|.ct ρ2 h2=>_|.bk ρ2 h2=>_|.rt v h2=>_|.exc v h2=>_|.bad=>_)=_;rw[one];exact lp
  ·rw[e2,spS];simp
theorem tM:∀d,sR d:=by
 intro d
 induction d using Nat.strongRecOn with
 |ind d ih=>
  intro b w ns k hd hk lw ln hw hc;obtain⟨k',rfl⟩:∃k',k=k'+1:=⟨k - 1,by omega⟩
  obtain⟨h',i',y4,y5,lp,e⟩:=nQ (dS b) k' (fun d' h=>ih d' (by omega)) (.tup (f9 b)) w ns (by omega) lw ln b 0 [.lst []] 0 [] none none (acg _) hw hc rfl (by simp;omega);show aW (fD (F k')) 3 6 [.tup (f9 b),wy w,nms ns]=_
  have ru:fD (F k') [some (.tup (f9 b)),some (wy w),some (nms ns),none,none,none] []=.rt (.ref i') h':=by have dl:=DO e;unfold fD;have s1:(aO 3 aa4) [some (.tup (f9 b)),some (wy w),some (nms ns),none,none,none] []=.nx [some (.tup (f9 b)),some (wy w),some (nms ns),some (.ref 0),none,none] [.lst []]:=rfl;have s2:(gD aby aa_ (bI (F k'))) [some (.tup (f9 b)),some (wy w),some (nms ns),some (.ref 0),none,none] [.lst []]=.nx [some (.tup (f9 b)),some (wy w),some (nms ns),some (.ref i'),y4,y5] h':=lp;rw[cj,s1];dsimp only;rw[cj,s2];dsimp only;show dY (ag 3 [some (.tup (f9 b)),some (wy w),some (nms ns),some (.ref i'),y4,y5] h') (fun v h1=>.rt v h1)=_;show dY (.ok (aj h' (.ref i')) h') (fun v h1=>SR.rt v h1)=_;rw[dl];rfl
  have r2:aW (fD (F k')) 3 6 [.tup (f9 b),wy w,nms ns]=match fD (F k') [some (.tup (f9 b)),some (wy w),some (nms ns),none,none,none] []with
   |.nx _ _=>.ok .non
   |.rt v h=>cr v h
   |_=>.bad:=rfl
  rw[r2,ru];dsimp only;unfold cr ij;dsimp only;rw[e,List.nil_append];dsimp only;rw[if_pos (qO _)]
def fd(d:Nat)(p:PV):Prop:=(toD p).canLay0=true∧(toD p).depth≤d∧p.pure=true
def fds(d:Nat)(l:List PV):Prop:=PyData.canLayAll0 (gN l)=true∧PyData.depthAll (gN l)≤d∧ai l=true
theorem bK(d:Nat):fds d []:=⟨by simp[gN,PyData.canLayAll0],by simp[gN,PyData.depthAll],by simp[ai]⟩
theorem aB{d:Nat}{p:PV}{l:List PV}(h:fd d p)(t:fds d l):fds d (p::l):=by
 refine⟨?_,?_,?_⟩
 ·simp only[gN,PyData.canLayAll0,h.1,t.1,Bool.and_self]
 ·simp only[gN,PyData.depthAll];exact Nat.max_le.mpr ⟨h.2.1,t.2.1⟩
 ·simp only[ai,h.2.2,t.2.2,Bool.and_self]
theorem sj{d:Nat}{l:List PV}(h:fds d l):fd (d+1) (.lst l):=by
 refine⟨?_,?_,?_⟩
 ·simp only[toD,PyData.canLay0,h.1]
 ·simp only[toD,PyData.depth];have:=h.2.1;omega
 ·simpa[PV.pure]using h.2.2
theorem cE{d:Nat}{l:List PV}(h:fds d l):fd (d+1) (.tup l):=by
 refine⟨?_,?_,?_⟩
 ·simp only[toD,PyData.canLay0,h.1]
 ·simp only[toD,PyData.depth];have:=h.2.1;omega
 ·simpa[PV.pure]using h.2.2
theorem bA{d e:Nat}{p:PV}(h:fd d p)(le:d≤e):fd e p:=⟨h.1,Nat.le_trans h.2.1 le,h.2.2⟩
theorem uG{d e:Nat}{l:List PV}(h:fds d l)(le:d≤e):fds e l:=⟨h.1,Nat.le_trans h.2.1 le,h.2.2⟩
theorem su{l:List PV}(hl:fds 59 l)(h:List L3.PO):G9 (.lst l) (.lst []) h=.ok (.bl l.isEmpty) h:=by
 have ok:Oe h (.lst l)=true:=by unfold Oe O2;have:=hl.2.1;simp only[toD,PyData.canLay0,PyData.depth,hl.1,Bool.true_and,decide_eq_true_eq];omega
 unfold G9;rw[if_pos ⟨ok,rfl⟩]
 cases l<;>rfl
theorem rH{l:List PV}(hl:fds 59 l)(h:List L3.PO):Ow (.lst l) (.lst []) h=.ok (.bl (!l.isEmpty)) h:=by
 have ok:Oe h (.lst l)=true:=by unfold Oe O2;have:=hl.2.1;simp only[toD,PyData.canLay0,PyData.depth,hl.1,Bool.true_and,decide_eq_true_eq];omega
 unfold Ow;rw[if_pos ⟨ok,rfl⟩]
 cases l<;>rfl
theorem GJ{α:Type}(l:List α)(b:Nat):cut l none (some (b:Int))=l.take b:=by
 unfold cut;rw[HT.Q_,HT.Rj,List.drop_zero,Nat.sub_zero];rcases Nat.le_total b l.length with q|q
 ·rw[Nat.min_eq_left q]
 ·rw[Nat.min_eq_right q,List.take_of_length_le (acg _),List.take_of_length_le q]
theorem qR(xs:List PV)(lo hi:Option Int)(h:List PO):cQ (.tup xs) lo hi h=.ok (.tup (cut xs lo hi)) h:=by
 unfold cQ;dsimp only
 split
 ·rename_i hz;unfold cut;rw[hz.1,hz.2];simp
 ·rfl
theorem eF(xs:List PV)(j:Nat)(h:List PO):cQ (.tup xs) none (some (j:Int)) h=.ok (.tup (xs.take j)) h:=by rw[qR,GJ]
theorem cI{d:Nat}{l:List Nat}(h:sg l=true):fd d (.str l):=⟨by simp only[toD,PyData.canLay0];simp[PyData.strOk,S];exact fun c hc=>gA h c hc,by simp[toD,PyData.depth],by simp[PV.pure]⟩
theorem mG(d:Nat)(i:Int):fd d (.int i):=⟨by simp[toD,PyData.canLay0],by simp[toD,PyData.depth],by simp[PV.pure]⟩
theorem sf(d:Nat):fd d .non:=⟨by simp[toD,PyData.canLay0],by simp[toD,PyData.depth],by simp[PV.pure]⟩
theorem iG{d:Nat}:∀{l:List (List Nat)},Mu l=true→fds d (l.map PV.str)
 |[],_=>bK d
 |a::r,h=>by rw[Mu,List.all_cons,acf]at h;exact aB (cI h.1) (iG h.2)
theorem sh{d:Nat}{l:List (List Nat)}(h:Mu l=true):fd (d+1) (nms l):=cE (iG h)
theorem rZ{d:Nat}{p:Mz}(h:wp p=true):fd (d+1) (MF p):=by rw[wp,acf,acf]at h;exact cE (aB (cI h.1) (iG h.2.1))
theorem jD{d:Nat}:∀{l:List Mz},l.all wp=true→fds (d+1) (bg l)
 |[],_=>bK _
 |a::r,h=>by rw[List.all_cons,acf]at h;exact aB (rZ h.1) (jD h.2)
theorem nh{l:List Mz}(h:wps l=true):l.all wp=true:=by rw[wps,acf]at h;exact h.1
theorem lK:sg tT=true∧sg tP=true∧sg tL=true∧sg tC=true∧sg tU=true∧sg tB=true∧sg tI=true:=by decide
mutual
theorem BC:∀{n:Nd},wN n=true→fd (2 * dN n+4) (nd n)
 |.text s,h=>by rw[wN]at h;rw[nd];exact bA (cE (aB (cI lK.1) (aB (cI h) (bK 0)))) (by omega)
 |.place p w,h=>by rw[wN,acf]at h;rw[nd];exact bA (cE (d:=1) (aB (cI lK.2.1) (aB (rZ h.1) (aB (cI h.2) (bK 1))))) (by omega)
 |.loop x p b t,h=>by rw[wN,acf,acf,acf]at h;rw[nd,dN];have q:=cE (mF h.2.2.1);exact bA (cE (aB (cI lK.2.2.1) (aB (cI h.1) (aB (bA (rZ (d:=0) h.2.1) (by omega)) (aB q (aB (cI h.2.2.2) (bK _))))))) (by omega)
 |.choice p y z,h=>by rw[wN,acf,acf]at h;rw[nd,dN];have m1:=Nat.le_max_left (dS y) (dS z);have m2:=Nat.le_max_right (dS y) (dS z);have q1:=bA (e:=2 * max (dS y) (dS z)+5) (cE (mF h.2.1)) (by omega);have q2:=bA (e:=2 * max (dS y) (dS z)+5) (cE (mF h.2.2)) (by omega);exact bA (cE (aB (cI lK.2.2.2.1) (aB (bA (rZ (d:=0) h.1) (by omega)) (aB q1 (aB q2 (bK _)))))) (by omega)
 |.use x ps,h=>by rw[wN,acf]at h;rw[nd];exact bA (cE (d:=2) (aB (cI lK.2.2.2.2.1) (aB (cI h.1) (aB (cE (jD (nh h.2))) (aB (sf _) (aB (sf _) (bK 2))))))) (by omega)
 |.j4 x ps hs b,h=>by rw[wN,acf,acf,acf,acf]at h;rw[nd,dN];have q:=cE (mF h.2.2.2.2);exact bA (cE (aB (cI lK.2.2.2.2.1) (aB (cI h.1) (aB (bA (cE (jD (d:=0) (nh h.2.1))) (by omega)) (aB (bA (sh (d:=0) h.2.2.1) (by omega)) (aB q (bK _))))))) (by omega)
 |.body ps,h=>by rw[wN]at h;rw[nd];exact bA (cE (d:=2) (aB (cI lK.2.2.2.2.2.1) (aB (cE (jD (nh h))) (bK 2)))) (by omega)
theorem mF:∀{b:G8},wS b=true→fds (2 * dS b+4) (f9 b)
 |.nil,_=>by rw[f9];exact bK _
 |.cons n r,h=>by rw[wS,acf]at h;rw[f9,dS];have m1:=Nat.le_max_left (dN n) (dS r);have m2:=Nat.le_max_right (dN n) (dS r);exact aB (bA (BC h.1) (by omega)) (uG (mF h.2) (by omega))
end
theorem IC{q:Pc}(h:wC q=true):fd 50 (pc q):=by
 simp only[wC,acf,decide_eq_true_eq]at h;obtain⟨w1,w2,_,w4,w5⟩:=h
 have qm:fd 46 (G_ q.m):=by cases q.m with
  |none=>exact sf _
  |some i=>exact mG _ i
 exact bA (cE (d:=46) (aB (cI lK.2.2.2.2.2.2) (aB (cI w1) (aB (bA (sh (d:=0) w2) (by omega)) (aB qm (aB (bA (cE (mF w4)) (by omega)) (bK _))))))) (by omega)
theorem xz:∀{l:List Pc},(∀q∈l,wC q=true)→fds 50 (l.map pc)
 |[],_=>bK _
 |q::r,h=>aB (IC (h q List.mem_cons_self)) (xz fun z hz=>h z (List.mem_cons_of_mem _ hz))
theorem jC{α:Type}{tt:Tx}{te:Ex}{cp:Ev}{h:List PO}(f:α→PV)(T:α→Bool)(g:α→PV):∀l:List α,(∀x∈l,tt (some (f x)::cp) h=.ok (T x) h)→(∀x∈l,te (some (f x)::cp) h=.ok (g x) h)→bG tt te cp (l.map f) h=.ok ((l.filter T).map g) h
 |[],_,_=>rfl
 |x::r,h1,h2=>by
  have ih:=jC f T g r (fun z hz=>h1 z (List.mem_cons_of_mem _ hz)) fun z hz=>h2 z (List.mem_cons_of_mem _ hz);rw[List.map_cons,bG,h1 x List.mem_cons_self];simp only[Res.Mj]
  cases e:T x with
  |true=>rw[if_pos rfl,h2 x List.mem_cons_self,List.filter_cons_of_pos e];simp only[Res.Mj,ih,List.map_cons]
  |false=>rw[if_neg (by decide),ih,List.filter_cons_of_neg (by rw[e];decide)]
theorem xr{B:List Pc}{i:Nat}{q:Pc}(e:B[i]? =some q)(h:List PO):b_ (bk B) (.int i) h=.ok (pc q) h:=by show(match Np (B.map pc) (i:Int)with|some v=>Res.ok (aj h v) h|none=>Res.bad)=_;rw[dJ (v:=pc q) (by omega) (by rw[Int.toNat_natCast,List.getElem?_map,e];rfl)];rfl
theorem DM{α:Type}(l:List α)(f:α→Bool):(!(l.filter f).isEmpty)=l.any f:=by
 induction l with
 |nil=>rfl
 |cons a r ih=>rw[List.filter_cons,List.any_cons];cases f a<;>simp_all
theorem EN{a b:List Nat}(ha:sg a=true)(hb:sg b=true)(h:List PO):G9 (.str a) (.str b) h=.ok (.bl (decide (a=b))) h:=vE a b h (gA ha) (gA hb)
theorem pF(k:Nat)(B:List Pc)(i:Nat)(q:Pc)(hq:B[i]? =some q)(hB:∀q∈B,wC q=true)(lB:B.length≤1000)(n:Nd)(hw:wN n=true)(ns:List (List Nat))(hn:Mu ns=true):
  F (k+2) .G3 [bk B,.int i,nd n,nms ns]=.ok (.bl (Nz (B.take i) q.m ns n)):=by
 show aW (aR (F (k+1))) 4 5 [bk B,.int i,nd n,nms ns]=_;have cp:∀h,bj (F (k+1) .J_) [nd n] h=.ok (.lst (bg (pa n))) h:=fun h=>aM h (by rw[ai,bz];rfl) (yH k n)
 have aw:(pa n).all wp=true∧(pa n).length<60:=by
  cases n with
  |text s=>exact⟨rfl,by simp[pa]⟩
  |place p w=>rw[wN,acf]at hw;exact⟨by simp[pa,hw.1],by simp[pa]⟩
  |loop x p b t=>rw[wN,acf,acf]at hw;exact⟨by simp[pa,hw.2.1],by simp[pa]⟩
  |choice p y z=>rw[wN,acf]at hw;exact⟨by simp[pa,hw.1],by simp[pa]⟩
  |use x ps=>rw[wN,acf,wps,acf]at hw;exact⟨hw.2.1,of_decide_eq_true hw.2.2⟩
  |j4 x ps hh b=>rw[wN,acf,acf,wps,acf]at hw;exact⟨hw.2.1.1,of_decide_eq_true hw.2.1.2⟩
  |body ps=>rw[wN,wps,acf]at hw;exact⟨hw.1,of_decide_eq_true hw.2⟩
 have ll:(pa n).length<16777216:=by omega
 have cm:∀h,bG (dM (F (k+1))) (dP (F (k+1))) (cJ [3] [some (bk B),some (.int i),some (nd n),some (nms ns),none]) (bg (pa n)) h=.ok (bg ((pa n).filter (out ns))) h:=fun h=>
  jC MF (out ns) MF (pa n) (fun p hp=>by
   have V7:=List.all_eq_true.mp aw.1 p hp;rw[wp,acf]at V7;have ni:hG (.str p.a) (nms ns) h=.ok (.bl (out ns p)) h:=by unfold nms;rw[Ey (gA V7.1) (zB hn)];unfold out;simp
   show dM (F (k+1)) [some (MF p),some (nms ns)] h=_;simp only[EX,dM,Ac,ni]) fun p hp=>by
   show dP (F (k+1)) [some (MF p),some (nms ns)] h=_;simp only[EX,dP]
 have nl:∀h,Ow (.lst (bg ((pa n).filter (out ns)))) (.lst []) h=.ok (.bl ((pa n).any (out ns))) h:=fun h=>by rw[rH (jD (d:=58) (List.all_eq_true.mpr fun p hp=>List.all_eq_true.mp aw.1 p (List.mem_filter.mp hp).1)),← DM];unfold bg;rw[List.isEmpty_map]
 have ib:=xr hq
 cases e:(pa n).any (out ns)with
 |true=>
  have:Nz (B.take i) q.m ns n=true:=by cases n<;>simp only[pa,List.any_cons,List.any_nil,Bool.or_false]at e<;>simp[Nz,e]
  rw[this];simp only[EX,aW,aR,cp,ll,cm,nl,e,cr]
 |false=>
  have use:∀(x:List Nat)(ps:List Mz)(o o2:PV)(hs:Option (List (List Nat))),sg x=true→nd n=.tup [.str tU,.str x,.tup (bg ps),o,o2]→(o=match hs with|none=>.non|some l=>nms l)→(∀l,hs=some l→l.length<60)→ps.any (out ns)=false→
    (Nz (B.take i) q.m ns n=match look (B.take i) x with|none=>true|some q=>Q9 ps q hs)→aW (aR (F (k+1))) 4 5 [bk B,.int i,nd n,nms ns]=.ok (.bl (Nz (B.take i) q.m ns n)):=by
   intro x ps o o2 hs sx en eo lh e0 ew;rw[ew];have lt:((B.take i).map pc).length<16777216:=by rw[List.length_map];have:=List.length_take_le' i B;omega
   have sl:∀h,cQ (bk B) none (some (i:Int)) h=.ok (.tup ((B.take i).map pc)) h:=fun h=>by unfold bk;rw[eF,List.map_take]
   have c2:∀h,bG (dL (F (k+1))) (dO (F (k+1))) (cJ [2] [some (bk B),some (.int i),some (nd n),some (nms ns),none]) ((B.take i).map pc) h=.ok (((B.take i).filter fun p=>p.n==x).map pc) h:=fun h=>
    jC pc (fun p=>p.n==x) pc (B.take i) (fun p hp=>by
     have w1:=hB p (List.mem_of_mem_take hp);rw[wC,acf]at w1;have i1:b_ (nd n) (.int 1) h=.ok (.str x) h:=by rw[en];rfl
     have eq:G9 (.str p.n) (.str x) h=.ok (.bl (p.n==x)) h:=by rw[EN w1.1 sx];congr 2;by_cases z:p.n=x<;>simp[z]
     show dL (F (k+1)) [some (pc p),some (nd n)] h=_;simp only[EX,dL,i1,eq]) fun p hp=>by
     show dO (F (k+1)) [some (pc p),some (nd n)] h=_;simp only[EX,dO]
   have lk:look (B.take i) x=((B.take i).filter fun p=>p.n==x).head? :=by unfold look;rw[List.head?_filter]
   have i0:∀h,b_ (nd n) (.int 0) h=.ok (.str tU) h:=fun h=>by rw[en];rfl
   have i2:∀h,b_ (nd n) (.int 2) h=.ok (.tup (bg ps)) h:=fun h=>by rw[en];rfl
   have i3:∀h,b_ (nd n) (.int 3) h=.ok o h:=fun h=>by rw[en];subst eo;cases hs<;>rfl
   have nu:∀h,Ow (.str tU) (.str tU) h=.ok (.bl false) h:=nek (a:=tU) (b:=tU) false;have eb:∀h,G9 (.str tU) (.str tB) h=.ok (.bl false) h:=fun h=>MK (a:=tU) (b:=tB) false (h:=h);have Vb:∀h,G9 (.lst (((B.take i).filter fun p=>p.n==x).map pc)) (.lst []) h=.ok (.bl (((B.take i).filter fun p=>p.n==x).map pc).isEmpty) h:=fun h=>su (uG (xz fun z hz=>hB z (List.mem_of_mem_take (List.mem_filter.mp hz).1)) (by decide)) h;rw[lk];generalize(B.take i).filter (fun p=>p.n==x)=fl at c2 Vb
   cases fl with
   |nil=>simp only[List.map_nil,List.isEmpty_nil]at c2 Vb;simp only[EX,aW,aR,cp,ll,cm,nl,e,i0,eb,nu,sl,lt,c2,Vb,List.isEmpty_nil,List.head?_nil,cr]
   |cons p r=>
    simp only[List.map_cons,List.isEmpty_cons]at c2 Vb;simp only[List.head?_cons]
    by_cases e5:p.ns.length=ps.length
    ·have d5:decide (((p.ns.length:Nat):Int)=((ps.length:Nat):Int))=true:=decide_eq_true (by omega);have b5:(ps.length !=p.ns.length)=false:=by simp[e5]
     cases hs with
     |none=>
      subst eo
      cases hm:p.m<;>simp only[EX,aW,aR,cp,ll,cm,nl,e,i0,i2,i3,eb,nu,sl,lt,c2,Vb,List.map_cons,List.isEmpty_cons,d5,Q9,b5,hm,cr]
     |some l=>
      subst eo;have hl:=lh l rfl;have XJ:∀h,b_ (nd n) (.int 3) h=.ok (nms l) h:=i3
      cases hm:p.m with
      |none=>simp only[EX,aW,aR,cp,ll,cm,nl,e,i0,i2,XJ,eb,nu,sl,lt,c2,Vb,d5,hm,G_,Q9,b5,cr]
      |some m=>
       have qq:l.length+1<scanBound:=Nat.lt_of_lt_of_le (Nat.succ_lt_succ hl) (by decide);have ee:decide (((kE l:Nat):Int)<((l.length:Nat):Int))=dup l:=by unfold dup;simp
       have e6:(!decide (((l.length:Nat):Int)=m))=(((l.length:Nat):Int) !=m):=by by_cases z:(l.length:Int)=m<;>simp[z]
       have ls:∀h,bZ (nms l) h=.ok (.int (kE l:Nat)) h:=fun h=>by unfold nms;rw[Ez,eK];simp only[qq,if_true]
       simp only[EX,aW,aR,cp,ll,cm,nl,e,i0,i2,XJ,eb,nu,sl,lt,c2,Vb,d5,hm,G_,Q9,b5,cr,ls,ee,e6]
       cases h9:(((l.length:Nat):Int) !=m)<;>simp only[EX,h9,cr]
    ·have d5:decide (((p.ns.length:Nat):Int)=((ps.length:Nat):Int))=false:=decide_eq_false (by omega);have b5:(ps.length !=p.ns.length)=true:=by simp;omega
     have wt:Q9 ps p hs=true:=by cases hs<;>simp[Q9,b5]
     simp only[EX,aW,aR,cp,ll,cm,nl,e,i0,i2,eb,nu,sl,lt,c2,Vb,List.map_cons,List.isEmpty_cons,d5,wt,cr]
  cases n with
  |text s=>simp only[EX,aW,aR,cp,ll,cm,nl,e,cr,Nz]
  |place p w=>simp only[EX,aW,aR,cp,ll,cm,nl,e,cr,Nz];simp only[pa,List.any_cons,List.any_nil,Bool.or_false]at e;rw[e]
  |loop x p b t=>simp only[EX,aW,aR,cp,ll,cm,nl,e,cr,Nz];simp only[pa,List.any_cons,List.any_nil,Bool.or_false]at e;rw[e]
  |choice p y z=>simp only[EX,aW,aR,cp,ll,cm,nl,e,cr,Nz];simp only[pa,List.any_cons,List.any_nil,Bool.or_false]at e;rw[e]
  |body ps=>
   have e':ps.any (out ns)=false:=e;have i0:∀h,b_ (nd (.body ps)) (.int 0) h=.ok (.str tB) h:=fun h=>by rw[nd];rfl
   have i1:∀h,b_ (nd (.body ps)) (.int 1) h=.ok (.tup (bg ps)) h:=fun h=>by rw[nd];rfl
   cases hm:q.m with
   |none=>simp only[EX,aW,aR,cp,ll,cm,nl,e,e',i0,i1,ib,hm,G_,Nz,cr]
   |some m=>
    have e6:(!decide (m=((ps.length:Nat):Int)))=(((ps.length:Nat):Int) !=m):=by
     by_cases z:m=(ps.length:Int)
     ·subst z;simp
     ·have z2:¬((ps.length:Nat):Int)=m:=fun w=>z w.symm;simp[z,z2]
    simp only[EX,aW,aR,cp,ll,cm,nl,e,e',i0,i1,ib,hm,G_,e6,Nz,cr]
  |use x ps=>rw[wN,acf]at hw;exact use x ps .non .non none hw.1 (by rw[nd]) rfl (fun _ z=>by cases z) e (by rw[Nz];simp only[pa]at e;rw[e];rfl)
  |j4 x ps hh b=>rw[wN,acf,acf,acf,acf]at hw;exact use x ps (nms hh) (.tup (f9 b)) (some hh) hw.1 (by rw[nd]) rfl (fun l z=>by cases z;exact of_decide_eq_true hw.2.2.2.1) e (by rw[Nz];simp only[pa]at e;rw[e];rfl)
mutual
theorem Fl(w:List Int)(ns:List (List Nat))(hn:Mu ns=true):∀n:Nd,wN n=true→∀x∈Qa w ns n,wN x.2.1=true∧Mu x.2.2=true
 |.loop n _ b _,hw=>by rw[wN,acf,acf,acf]at hw;rw[Qa];exact kD _ _ _ (jL hn (by simp[Mu,hw.1])) b hw.2.2.1
 |.choice _ y z,hw=>by
  rw[wN,acf,acf]at hw;rw[Qa];intro x hx;rcases List.mem_append.mp hx with h|h
  ·exact kD _ _ _ hn y hw.2.1 x h
  ·exact kD _ _ _ hn z hw.2.2 x h
 |.j4 _ _ h b,hw=>by rw[wN,acf,acf,acf,acf]at hw;rw[Qa];exact kD _ _ _ (jL hn hw.2.2.1) b hw.2.2.2.2
 |.text _,_=>fun x hx=>by cases hx
 |.place _ _,_=>fun x hx=>by cases hx
 |.use _ _,_=>fun x hx=>by cases hx
 |.body _,_=>fun x hx=>by cases hx
theorem kD(w:List Int)(k:Nat)(ns:List (List Nat))(hn:Mu ns=true):∀b:G8,wS b=true→∀x∈spS w k ns b,wN x.2.1=true∧Mu x.2.2=true
 |.nil,_=>fun x hx=>by cases hx
 |.cons n r,hw=>by
  rw[wS,acf]at hw;rw[spS];intro x hx;rcases List.mem_cons.mp hx with h|h
  ·subst h;exact⟨hw.1,hn⟩
  rcases List.mem_append.mp h with h|h
  ·exact Fl _ _ hn n hw.1 x h
  ·exact kD _ _ _ hn r hw.2 x h
end
theorem rK{α:Type}{te:Ex}{cp:Ev}{h:List PO}(f g:α→PV)(l:List α)(h2:∀x∈l,te (some (f x)::cp) h=.ok (g x) h):bG dR te cp (l.map f) h=.ok (l.map g) h:=by rw[jC f (fun _=>true) g l (fun _ _=>rfl) h2,List.filter_eq_self.mpr fun _ _=>rfl]
theorem iC:∀B:List Pc,ai (B.map pc)=true
 |[]=>rfl
 |q::r=>by rw[List.map_cons,ai,gT,iC r];rfl
theorem cC(B:List Pc):(bk B).pure=true:=by unfold bk;rw[PV.pure];exact iC B
theorem mK(k:Nat)(B:List Pc)(i:Nat)(q:Pc)(hq:B[i]? =some q)(hB:∀q∈B,wC q=true)(lB:B.length≤1000)(a2 a3:Option PV):∀(l:List TY)(x4 x5 x6:Option PV),(∀x∈l,wN x.2.1=true∧Mu x.2.2=true)→
  ∃y4 y5 y6,aN abA (bU (F (k+2))) (l.map Mf) [some (bk B),some (.int i),a2,a3,x4,x5,x6] []=
   match l.find? fun x=>Nz (B.take i) q.m x.2.2 x.2.1 with
   |some x=>.rt (wy x.1) []
   |none=>.nx [some (bk B),some (.int i),a2,a3,y4,y5,y6] []
 |[],x4,x5,x6,_=>⟨x4,x5,x6,rfl⟩
 |x::r,x4,x5,x6,hx=>by
  obtain⟨h1,h2⟩:=hx x List.mem_cons_self;have cw:∀h,bj (F (k+2) .G3) [bk B,.int i,nd x.2.1,nms x.2.2] h=.ok (.bl (Nz (B.take i) q.m x.2.2 x.2.1)) h:=fun h=>aM h (by simp[ai,cC,PV.pure,bz,br]) (pF k B i q hq hB lB x.2.1 h1 x.2.2 h2)
  have one:bU (F (k+2)) [some (bk B),some (.int i),a2,a3,some (wy x.1),some (nd x.2.1),some (nms x.2.2)] []=if Nz (B.take i) q.m x.2.2 x.2.1=true then .rt (wy x.1) []else .nx [some (bk B),some (.int i),a2,a3,some (wy x.1),some (nd x.2.1),some (nms x.2.2)] []:=by simp only[EX,bU,cw]
  obtain⟨y4,y5,y6,ih⟩:=mK k B i q hq hB lB a2 a3 r (some (wy x.1)) (some (nd x.2.1)) (some (nms x.2.2)) fun z hz=>hx z (List.mem_cons_of_mem _ hz);refine⟨y4,y5,y6,?_⟩;rw[List.map_cons,aN];show(match bU (F (k+2)) [some (bk B),some (.int i),a2,a3,some (wy x.1),some (nd x.2.1),some (nms x.2.2)] []with|.nx ρ2 h2=>_|.ct ρ2 h2=>_|.bk ρ2 h2=>_|.rt v h2=>_|.exc v h2=>_|.bad=>_)=_;rw[one,List.find?_cons]
  cases e:Nz (B.take i) q.m x.2.2 x.2.1 with
  |true=>rfl
  |false=>exact ih
def V5:Option (List Int)→PV
 |none=>.non
 |some w=>wy w
theorem mO(k:Nat)(B:List Pc)(hB:∀q∈B,wC q=true)(hc:∀q∈B,K4 q.b≤1000000)(lB:B.length≤1000)(hk:22≤k+2):∀(r E:List Pc)(x1 x2 x3 x4 x5 x6:Option PV),B=E++r→∃y1 y2 y3 y4 y5 y6,
  aN aaw (aL (F (k+2))) (Od E.length (r.map pc)) [some (bk B),x1,x2,x3,x4,x5,x6] []=
   match QT B.length E r with
   |some w=>.rt (wy w) []
   |none=>.nx [some (bk B),y1,y2,y3,y4,y5,y6] []
 |[],E,x1,x2,x3,x4,x5,x6,_=>⟨x1,x2,x3,x4,x5,x6,by rw[List.map_nil,Od,aN,QT]⟩
 |q::r,E,x1,x2,x3,x4,x5,x6,hb=>by
  have hq:B[E.length]? =some q:=by rw[hb];simp
  have hm:q∈B:=List.mem_of_getElem? hq;have ht:B.take E.length=E:=by rw[hb];simp
  have lE:E.length<B.length:=by rw[hb];simp
  have hE:∀p∈E,wC p=true:=fun p hp=>hB p (by rw[hb];exact List.mem_append_left _ hp);have wq:=hB q hm;simp only[wC,acf,decide_eq_true_eq]at wq;obtain⟨w1,w2,w3,w4,w5⟩:=wq;have sl:∀h,cQ (bk B) none (some (E.length:Int)) h=.ok (.tup (E.map pc)) h:=fun h=>by unfold bk;rw[eF,← List.map_take,ht]
  have lt:(E.map pc).length<16777216:=by rw[List.length_map];omega
  have cm:∀h,bG dR (dB (F (k+2))) (cJ [] [some (bk B),some (.int E.length),some (pc q),x3,x4,x5,x6]) (E.map pc) h=.ok ((E.map (·.n)).map PV.str) h:=fun h=>by
   rw[List.map_map]
   exact rK pc _ E fun p hp=>by show dB (F (k+2)) [some (pc p)] h=_;simp only[EX,dB];rfl
  have sn:∀l∈E.map (·.n),∀c∈l,c<1114112:=fun l hl=>by obtain⟨p,hp,rfl⟩:=List.mem_map.mp hl;have:=hE p hp;rw[wC,acf]at this;exact gA this.1
  have RZ:∀h,Rz (.str q.n) (.lst ((E.map (·.n)).map PV.str)) h=.ok (.bl ((E.map (·.n)).contains q.n)) h:=fun h=>by rw[Dy (gA w1) sn];congr 2;rw[Bool.eq_iff_iff,decide_eq_true_eq,List.contains_iff_mem]
  have qq:q.ns.length+1<scanBound:=Nat.lt_of_lt_of_le (Nat.succ_lt_succ w3) (by decide);have ls:∀h,bZ (nms q.ns) h=.ok (.int (kE q.ns:Nat)) h:=fun h=>by unfold nms;rw[Ez,eK];simp only[qq,if_true]
  have ee:decide (((kE q.ns:Nat):Int)<((q.ns.length:Nat):Int))=dup q.ns:=by unfold dup;simp
  have el:decide ((E.length:Int)=(B.length:Int) - 1)=decide (E.length+1=B.length):=by
   by_cases e:E.length+1=B.length
   ·rw[decide_eq_true e];exact decide_eq_true (by omega)
   ·rw[decide_eq_false e];exact decide_eq_false (by omega)
  have so:=tM (dS q.b) q.b [(E.length:Int)] q.ns (k+2) (acg _) (by omega) (by simp;omega) (by omega) w4 (hc q hm);have cs:∀h,bj (F (k+2) .E_) [.tup (f9 q.b),.tup [.int E.length],nms q.ns] h=.ok (.lst ((spS [(E.length:Int)] 0 q.ns q.b).map Mf)) h:=fun h=>aM h (by simp[ai,PV.pure,aY q.b,br]) so
  have st:∀(R:SR),aL (F (k+2)) [some (bk B),some (.int E.length),some (pc q),x3,x4,x5,x6] []=R→
    aN aaw (aL (F (k+2))) (Od E.length (pc q::r.map pc)) [some (bk B),x1,x2,x3,x4,x5,x6] []=
    match R with
    |.nx ρ2 h2=>aN aaw (aL (F (k+2))) (Od (E.length+1) (r.map pc)) ρ2 h2
    |.ct ρ2 h2=>aN aaw (aL (F (k+2))) (Od (E.length+1) (r.map pc)) ρ2 h2
    |.bk ρ2 h2=>.nx ρ2 h2
    |.rt v h2=>.rt v h2
    |.exc v h2=>.exc v h2
    |.bad=>.bad:=fun R e=>by subst e;rfl
  rw[List.map_cons,QT]
  cases h1:(E.map (·.n)).contains q.n||dup q.ns with
  |true=>
   rw[Bool.true_or,if_pos rfl,st (.rt (wy [(E.length:Int)]) []) (by
    rcases Bool.or_eq_true _ _▸h1 with z|z
    ·simp only[EX,aL,sl,lt,cm,RZ,z];rfl
    ·cases z2:(E.map (·.n)).contains q.n<;>simp only[EX,aL,sl,lt,cm,RZ,z2,ls,ee,z]<;>rfl)]
   exact⟨x1,x2,x3,x4,x5,x6,rfl⟩
  |false=>
   have z1:(E.map (·.n)).contains q.n=false:=by rw[Bool.or_eq_false_iff]at h1;exact h1.1
   have z2:dup q.ns=false:=by rw[Bool.or_eq_false_iff]at h1;exact h1.2
   rw[Bool.false_or]
   cases h3:decide (E.length+1=B.length)&&q.m.isSome with
   |true=>rw[acf]at h3;rw[if_pos rfl,st (.rt (wy [(E.length:Int)]) []) (by simp only[EX,aL,sl,lt,cm,RZ,z1,ls,ee,z2,el,h3.1,h3.2];rfl)];exact⟨x1,x2,x3,x4,x5,x6,rfl⟩
   |false=>
    rw[if_neg (by decide)];obtain⟨y4,y5,y6,lp⟩:=mK k B E.length q hq hB lB (some (pc q)) (some (.lst ((E.map (·.n)).map PV.str))) (spS [(E.length:Int)] 0 q.ns q.b) x4 x5 x6 (kD _ _ _ w2 q.b w4);rw[ht]at lp
    have go:aL (F (k+2)) [some (bk B),some (.int E.length),some (pc q),x3,x4,x5,x6] []=aN abA (bU (F (k+2))) ((spS [(E.length:Int)] 0 q.ns q.b).map Mf) [some (bk B),some (.int E.length),some (pc q),some (.lst ((E.map (·.n)).map PV.str)),x4,x5,x6] []:=by
     cases d:decide (E.length+1=B.length)with
     |false=>simp only[EX,aL,sl,lt,cm,RZ,z1,ls,ee,z2,el,d,cs]
     |true=>rw[d,Bool.true_and]at h3;simp only[EX,aL,sl,lt,cm,RZ,z1,ls,ee,z2,el,d,h3,cs]
    rw[st _ (go.trans lp),mD]
    cases(spS [(E.length:Int)] 0 q.ns q.b).find? fun x=>Nz E q.m x.2.2 x.2.1 with
    |some x=>exact⟨x1,x2,x3,x4,x5,x6,rfl⟩
    |none=>
     have l1:(E++ [q]).length=E.length+1:=by simp
     have ih:=mO k B hB hc lB hk r (E++ [q]) (some (.int E.length)) (some (pc q)) (some (.lst ((E.map (·.n)).map PV.str))) y4 y5 y6 (by rw[hb];simp);rw[l1]at ih;exact ih
theorem zj(o:Option (List Int)):(V5 o).pure=true:=by cases o<;>first|rfl|exact bS _
theorem Bz(k:Nat)(B:List Pc)(hB:∀q∈B,wC q=true)(hc:∀q∈B,K4 q.b≤1000000)(lB:B.length≤1000)(hk:22≤k+2):F (k+3) .v8 [bk B]=.ok (V5 (QT B.length [] B)):=by
 obtain⟨y1,y2,y3,y4,y5,y6,lp⟩:=mO k B hB hc lB hk B [] none none none none none none rfl;show aW (bX (F (k+2))) 1 7 [bk B]=_
 have ru:bX (F (k+2)) [some (bk B),none,none,none,none,none,none] []=.rt (V5 (QT B.length [] B)) []:=by
  have fo:gD aby aaw (aL (F (k+2))) [some (bk B),none,none,none,none,none,none] []=aN aaw (aL (F (k+2))) (Od ([]:List Pc).length (B.map pc)) [some (bk B),none,none,none,none,none,none] []:=rfl;unfold bX;rw[cj,fo,lp]
  cases QT B.length [] B<;>rfl
 have r2:aW (bX (F (k+2))) 1 7 [bk B]=match bX (F (k+2)) [some (bk B),none,none,none,none,none,none] []with
  |.nx _ _=>.ok .non
  |.rt v h=>cr v h
  |_=>.bad:=rfl
 rw[r2,ru];exact bD (zj _)
abbrev Sz:=Int×Int×Int×Int
noncomputable def M8(s:Sz):PV:=.tup [.int s.1,.int s.2.1,.int s.2.2.1,.int s.2.2.2]
def bd(X:Nat)(s:Sz):Prop:=(0≤s.1∧s.1≤X)∧(0≤s.2.1∧s.2.1≤X)∧(0≤s.2.2.1∧s.2.2.1≤X)∧(0≤s.2.2.2∧s.2.2.2≤X)
theorem jX{X Y:Nat}{s:Sz}(h:bd X s)(le:X≤Y):bd Y s:=by unfold bd at*;omega
section
variable(s:Sz)(h:List PO)
theorem tK:b_ (M8 s) (.int 0) h=.ok (.int s.1) h:=rfl
theorem tJ:b_ (M8 s) (.int 1) h=.ok (.int s.2.1) h:=rfl
theorem vn:b_ (M8 s) (.int 2) h=.ok (.int s.2.2.1) h:=rfl
theorem zv:b_ (M8 s) (.int 3) h=.ok (.int s.2.2.2) h:=rfl
theorem kj:aj h (M8 s)=M8 s:=rfl
theorem fH:(M8 s).pure=true:=rfl
end
theorem Cy(k X Y:Nat)(a b:Sz)(ha:bd X a)(hb:bd Y b):∃s,bd (X+Y) s∧F (k+1) .D_ [M8 a,M8 b]=.ok (M8 s):=by
 refine⟨(a.1+b.1,(if b.2.1>a.2.1 then b.2.1 else a.2.1),a.2.2.1+b.2.2.1,(if b.2.2.2>a.2.2.2 then b.2.2.2 else a.2.2.2)),?_,?_⟩
 ·unfold bd at*;dsimp only;refine⟨by omega,by split<;>omega,by omega,by split<;>omega⟩
 ·show aW (eT (F k)) 2 2 [M8 a,M8 b]=_;simp only[EX,aW,eT,kj,tK,tJ,vn,zv];rfl
theorem xT(k X:Nat)(a:Sz)(ha:bd X a):∃s,bd (X+1) s∧F (k+1) .v9 [M8 a]=.ok (M8 s):=by
 unfold bd at ha
 cases e:a.2.2.1 !=0 with
 |true=>refine⟨(a.1+1,a.2.1+1,a.2.2.1,a.2.2.2+1),by unfold bd;dsimp only;omega,?_⟩;show aW (du (F k)) 1 2 [M8 a]=_;simp only[EX,aW,du,kj,tK,tJ,vn,zv,e];rfl
 |false=>refine⟨(a.1+1,a.2.1+1,a.2.2.1,0),by unfold bd;dsimp only;omega,?_⟩;show aW (du (F k)) 1 2 [M8 a]=_;simp only[EX,aW,du,kj,tK,tJ,vn,zv,e];rfl
mutual
def Qd(kn:List (List Nat)):Nd→Bool
 |.loop _ _ b _=>O4 kn b
 |.choice _ y n=>O4 kn y&&O4 kn n
 |.use x _=>kn.contains x
 |.j4 x _ _ b=>kn.contains x&&O4 kn b
 |_=>true
def O4(kn:List (List Nat)):G8→Bool
 |.nil=>true
 |.cons n r=>Qd kn n&&O4 kn r
end
noncomputable def RK:G8→G8→G8
 |.nil,z=>z
 |.cons n r,z=>.cons n (RK r z)
theorem rJ:∀(y z:G8),f9 (RK y z)=f9 y++f9 z
 |.nil,z=>by rw[RK,f9];rfl
 |.cons n r,z=>by rw[RK,f9,f9,rJ r z];rfl
theorem EQ:∀(y z:G8),dS (RK y z)=max (dS y) (dS z)
 |.nil,z=>by rw[RK,dS];omega
 |.cons n r,z=>by rw[RK,dS,dS,EQ r z];omega
theorem sE:∀(y z:G8),K4 (RK y z)=K4 y+K4 z
 |.nil,z=>by rw[RK,K4];omega
 |.cons n r,z=>by rw[RK,K4,K4,sE r z];omega
theorem vg(kn:List (List Nat)):∀(y z:G8),O4 kn (RK y z)=(O4 kn y&&O4 kn z)
 |.nil,z=>by rw[RK,O4];simp
 |.cons n r,z=>by rw[RK,O4,O4,vg kn r z,Bool.and_assoc]
theorem jQ:∀b:G8,(f9 b).length≤K4 b
 |.nil=>by rw[f9,K4];simp
 |.cons n r=>by rw[f9,K4,List.length_cons];have:=jQ r;omega
def Mq(S:List (List Nat×Sz)):PO:=.dct (S.map fun x=>(.inr x.1,M8 x.2))
theorem eO(S:List (List Nat×Sz)):(Mq S).pure=true:=by
 show eI _=true;rw[fm,List.map_map]
 induction S with
 |nil=>rfl
 |cons q r ih=>rw[List.map_cons,ai,ih];rfl
theorem tj(n:List Nat):∀S:List (List Nat×Sz),(S.map (·.1)).contains n=true→∃x∈S,iM (S.map fun x=>(Sum.inr x.1,M8 x.2)) (.inr n)=some (M8 x.2)
 |[],h=>by cases h
 |x::r,h=>by
  by_cases e:x.1=n
  ·subst e;exact⟨x,List.mem_cons_self,by simp[iM]⟩
  ·rw[List.map_cons,List.contains_cons,Bool.or_eq_true]at h;rcases h with h|h
   ·exact(e (eq_of_beq h).symm).elim
   ·obtain⟨y,hy,z⟩:=tj n r h;refine⟨y,List.mem_cons_of_mem _ hy,?_⟩;rw[← z];simp[iM,e]
theorem vT(n:List Nat)(S:List (List Nat×Sz))(e:(S.map (·.1)).contains n=true):∃x∈S,∀r,b_ (.ref 0) (.str n) (Mq S::r)=.ok (M8 x.2) (Mq S::r):=by obtain⟨x,hx,z⟩:=tj n S e;refine⟨x,hx,fun r=>?_⟩;show(match iM (S.map fun x=>(Sum.inr x.1,M8 x.2)) (.inr n)with|some v=>Res.ok (aj (Mq S::r) v) (Mq S::r)|none=>Res.bad)=_;rw[z];rfl
def Cc(S:List (List Nat×Sz))(c d:Nat):Prop:=∀(b:G8)(k:Nat),dS b≤d→O4 (S.map (·.1)) b=true→K4 b≤1000000→3 * dS b+4≤k→
 ∃s,bd (K4 b * (2 ^ c) ^ (dS b+1)) s∧L k .g_ [.tup (f9 b),.ref 0] [Mq S]=.ok (M8 s) [Mq S]
theorem uF{v:PV}{o:PO}(hv:v.pure=true)(ho:o.pure=true):dX 1 v [o]=.ok v [o]:=by unfold dX;rw[iE _ hv];dsimp only;unfold gk;simp[bN,ho]
theorem rF{b:Sx}{np n:Nat}{ps:List PV}{v:PV}{h:List PO}(e:b (ps.map some++List.replicate (n - ps.length) none) []=.rt v h)(hl:ps.length=np)(hv:v.pure=true):aW b np n ps=.ok v:=by unfold aW;rw[if_pos hl,e];exact bD hv
theorem xM{x:Int}{n:Nat}(h0:0≤x)(h:x<2 ^ n):Builtin.Int.intBits x≤n:=intBits_le_iff.mpr (by
 have:((x.natAbs:Nat):Int)<((2 ^ n:Nat):Int):=by rw[Int.natCast_pow];show _<(2:Int) ^ n;omega
 omega)
theorem Dq{a b c d q:Nat}(h:a≤b)(hq:1≤q)(hc:c≤d):a * q ^ c≤b * q ^ d:=Nat.mul_le_mul h (Nat.pow_le_pow_right hq hc)
theorem yb(S:List (List Nat×Sz))(c d:Nat)(hS:∀x∈S,bd (2 ^ c - 1) x.2)(hc:8 * c+30≤134217728)(hd:d≤6)(ok:∀d',d'<d→Cc S c d')(n:Nd)(k:Nat)(dn:dN n≤d)(us:Qd (S.map (·.1)) n=true)(ct:Ma n≤1000000)(hk:3 * dN n+3≤k):
  ∃s,bd ((Ma n+1) * (2 ^ c) ^ (dN n+1)) s∧L k .o7 [nd n,.ref 0] [Mq S]=.ok (M8 s) [Mq S]:=by
 obtain⟨k',rfl⟩:∃k',k=k'+3:=⟨k - 3,by omega⟩
 have q1:1≤2 ^ c:=Nat.one_le_two_pow;have fin:∀s:Sz,dX 1 (M8 s) [Mq S]=.ok (M8 s) [Mq S]:=fun s=>uF (fH s) (eO S);have d0:aj [Mq S] (.ref 0)=.ref 0:=rfl;have r2:∀p1 p2:PV,eY (aU (F (k'+2)) (L (k'+2))) 2 2 [p1,p2] [Mq S]=match aU (F (k'+2)) (L (k'+2)) [some p1,some p2] [Mq S]with|.nx _ h1=>gk 1 .non h1|.rt v h1=>dX 1 v h1|_=>.bad:=fun _ _=>rfl
 have leaf:∀s:Sz,bd 1 s→aU (F (k'+2)) (L (k'+2)) [some (nd n),some (.ref 0)] [Mq S]=.rt (M8 s) [Mq S]→∃s,bd ((Ma n+1) * (2 ^ c) ^ (dN n+1)) s∧L (k'+3) .o7 [nd n,.ref 0] [Mq S]=.ok (M8 s) [Mq S]:=fun s hs e=>⟨s,jX hs (Nat.mul_pos (by omega) (Nat.pow_pos q1)),by show eY (aU (F (k'+2)) (L (k'+2))) 2 2 [nd n,.ref 0] [Mq S]=_;rw[r2,e];exact fin s⟩
 have wi:∀(X:Nat)(s:Sz),bd X s→X+1≤(Ma n+1) * (2 ^ c) ^ (dN n+1)→(∀s',(∀h,bj (F (k'+2) .v9) [M8 s] h=.ok (M8 s') h)→aU (F (k'+2)) (L (k'+2)) [some (nd n),some (.ref 0)] [Mq S]=.rt (M8 s') [Mq S])→
   ∃s,bd ((Ma n+1) * (2 ^ c) ^ (dN n+1)) s∧L (k'+3) .o7 [nd n,.ref 0] [Mq S]=.ok (M8 s) [Mq S]:=fun X s hs hX e=>by
  obtain⟨s',b',e'⟩:=xT (k'+1) X s hs;refine⟨s',jX b' hX,?_⟩;show eY (aU (F (k'+2)) (L (k'+2))) 2 2 [nd n,.ref 0] [Mq S]=_;rw[r2,e s' fun h=>aM h (by rw[ai,fH];rfl) e'];exact fin s'
 cases n with
 |text s=>exact leaf (1,1,0,0) (by unfold bd;dsimp only;omega) (by simp only[EX,nd,aU];rfl)
 |place p s=>exact leaf (1,1,0,0) (by unfold bd;dsimp only;omega) (by simp only[EX,nd,aU];rfl)
 |body p=>exact leaf (1,1,1,1) (by unfold bd;dsimp only;omega) (by simp only[EX,nd,aU];rfl)
 |loop x p b t=>
  rw[dN]at dn hk;rw[Qd]at us;rw[Ma]at ct;obtain⟨s,bs,e⟩:=ok (dS b) (by omega) b (k'+2) (acg _) us ct (by omega);have cc:=(cL (fn:=L (k'+2) .g_) [.tup (f9 b)] (o:=Mq S) (by simp[ai,PV.pure,aY b]) (eO S)).1 _ (fH s) e;simp only[List.cons_append,List.nil_append]at cc;refine wi _ s bs ?_ fun s' cw=>?_
  ·rw[dN,Ma,Nat.add_mul];exact Nat.add_le_add (Dq (acg _) q1 (by omega)) (Nat.mul_pos (by omega) (Nat.pow_pos q1))
  ·have i0:∀h,b_ (nd (.loop x p b t)) (.int 0) h=.ok (.str tL) h:=fun h=>by rw[nd];rfl
   simp only[EX,aU,i0,d0,cc,cw]
 |choice p y z=>
  rw[dN]at dn hk;rw[Qd,acf]at us;rw[Ma]at ct;have da:=EQ y z;obtain⟨s,bs,e⟩:=ok (dS (RK y z)) (by omega) (RK y z) (k'+2) (acg _) (by rw[vg,us.1,us.2];rfl) (by rw[sE];exact ct) (by omega);rw[rJ]at e;have cc:=(cL (fn:=L (k'+2) .g_) [.tup (f9 y++f9 z)] (o:=Mq S) (by rw[← rJ];simp[ai,PV.pure,aY]) (eO S)).1 _ (fH s) e;simp only[List.cons_append,List.nil_append]at cc;have ly:∀b:G8,(f9 b).length≤K4 b:=fun b=>jQ b;refine wi _ s bs ?_ fun s' cw=>?_
  ·rw[dN,Ma,Nat.add_mul,sE,da];exact Nat.add_le_add (Dq (acg _) q1 (by omega)) (Nat.mul_pos (by omega) (Nat.pow_pos q1))
  ·have i0:∀h,b_ (nd (.choice p y z)) (.int 0) h=.ok (.str tC) h:=fun h=>by rw[nd];rfl
   have aa:∀h,aq (.tup (f9 y)) (.tup (f9 z)) h=.ok (.tup (f9 y++f9 z)) h:=fun h=>dh _ _ h (by have:=ly y;have:=ly z;exact Nat.le_trans (by omega:_≤1000000) (by decide));simp only[EX,aU,i0,d0,aa,cc,cw]
 |use x ps=>
  rw[Qd]at us;obtain⟨y,hy,ix⟩:=vT x S us;have X7:=hS y hy
  have e:L (k'+2) .m7 [nd (.use x ps),.ref 0] [Mq S]=.ok (M8 (y.2.1,y.2.2.1,0,0)) [Mq S]:=by
   show eY (bu (F (k'+1)) (L (k'+1))) 2 6 [nd (.use x ps),.ref 0] [Mq S]=_
   have ru:bu (F (k'+1)) (L (k'+1)) [some (nd (.use x ps)),some (.ref 0),none,none,none,none] [Mq S]=.rt (M8 (y.2.1,y.2.2.1,0,0)) [Mq S]:=by simp only[EX,bu,d0,ix,kj,tK,tJ,vn];rfl
   have r3:eY (bu (F (k'+1)) (L (k'+1))) 2 6 [nd (.use x ps),.ref 0] [Mq S]=match bu (F (k'+1)) (L (k'+1)) [some (nd (.use x ps)),some (.ref 0),none,none,none,none] [Mq S]with|.nx _ h1=>gk 1 .non h1|.rt v h1=>dX 1 v h1|_=>.bad:=rfl
   rw[r3,ru];exact fin _
  have cc:=(cL (fn:=L (k'+2) .m7) [nd (.use x ps)] (o:=Mq S) (by simp[ai,bz]) (eO S)).1 _ (fH _) e;simp only[List.cons_append,List.nil_append]at cc;refine wi (2 ^ c - 1) (y.2.1,y.2.2.1,0,0) (by unfold bd at*;dsimp only;omega) ?_ fun s' cw=>?_
  ·have z1:dN (.use x ps)=0:=rfl;have z2:Ma (.use x ps)=0:=rfl;rw[z1,z2,Nat.zero_add,Nat.one_mul,Nat.pow_one];omega
  ·have i0:∀h,b_ (nd (.use x ps)) (.int 0) h=.ok (.str tU) h:=fun h=>by rw[nd];rfl
   simp only[EX,aU,i0,d0,cc,cw]
 |j4 x ps hs b=>
  rw[dN]at dn hk;rw[Qd,acf]at us;rw[Ma]at ct;obtain⟨y,hy,ix⟩:=vT x S us.1;have X7:=hS y hy;obtain⟨s,bs,e⟩:=ok (dS b) (by omega) b (k'+1) (acg _) us.2 ct (by omega);have cn:=(cL (fn:=L (k'+1) .g_) [.tup (f9 b)] (o:=Mq S) (by simp[ai,PV.pure,aY b]) (eO S)).1 _ (fH s) e;simp only[List.cons_append,List.nil_append]at cn
  have key:∃s2,bd ((2 ^ c - 1) * (K4 b * (2 ^ c) ^ (dS b+1))+(K4 b * (2 ^ c) ^ (dS b+1))+(2 ^ c - 1)) s2∧L (k'+2) .m7 [nd (.j4 x ps hs b),.ref 0] [Mq S]=.ok (M8 s2) [Mq S]:=by
   have r3:∀s2,bu (F (k'+1)) (L (k'+1)) [some (nd (.j4 x ps hs b)),some (.ref 0),none,none,none,none] [Mq S]=.rt (M8 s2) [Mq S]→L (k'+2) .m7 [nd (.j4 x ps hs b),.ref 0] [Mq S]=.ok (M8 s2) [Mq S]:=fun s2 ru=>by
    have r4:L (k'+2) .m7 [nd (.j4 x ps hs b),.ref 0] [Mq S]=match bu (F (k'+1)) (L (k'+1)) [some (nd (.j4 x ps hs b)),some (.ref 0),none,none,none,none] [Mq S]with|.nx _ h1=>gk 1 .non h1|.rt v h1=>dX 1 v h1|_=>.bad:=rfl
    rw[r4,ru];exact fin _
   by_cases m0:y.2.2.2.1=0
   ·refine⟨(y.2.1,y.2.2.1,0,0),by unfold bd at*;dsimp only;omega,r3 _ ?_⟩;have z0:decide (y.2.2.2.1=0)=true:=decide_eq_true m0;simp only[EX,bu,d0,ix,kj,tK,tJ,vn,z0];rfl
   ·have z0:decide (y.2.2.2.1=0)=false:=decide_eq_false m0;have hq:(2 ^ c) ^ (dS b+1)=2 ^ (c * (dS b+1)):=by rw[Nat.pow_mul]
    have lb:K4 b * (2 ^ c) ^ (dS b+1)<2 ^ (20+c * (dS b+1)):=by rw[hq,Nat.pow_add];exact Nat.mul_lt_mul_of_pos_right (Nat.lt_of_le_of_lt ct (by decide)) (Nat.two_pow_pos _)
    have cl:c * (dS b+1)≤c * 6:=Nat.mul_le_mul_left _ (by omega)
    have bm:∀v:Int,0≤v→v≤((K4 b * (2 ^ c) ^ (dS b+1):Nat):Int)→hZ y.2.2.2.1 v=true:=fun v v0 v1=>Gp (decide_eq_true (by
     have b1:Builtin.Int.intBits y.2.2.2.1≤c:=xM (by unfold bd at X7;omega) (by
      have:((2 ^ c:Nat):Int)=(2:Int) ^ c:=by rw[Int.natCast_pow];rfl
      unfold bd at X7;omega)
     have b2:Builtin.Int.intBits v≤20+c * (dS b+1):=xM v0 (by
      have:((2 ^ (20+c * (dS b+1)):Nat):Int)=(2:Int) ^ (20+c * (dS b+1)):=by rw[Int.natCast_pow];rfl
      rw[← this];omega)
     omega))
    have mle:∀v:Int,0≤v→v≤((K4 b * (2 ^ c) ^ (dS b+1):Nat):Int)→0≤y.2.2.2.1 * v∧y.2.2.2.1 * v≤(((2 ^ c - 1) * (K4 b * (2 ^ c) ^ (dS b+1)):Nat):Int):=fun v v0 v1=>by have h3:=X7.2.2.1;refine⟨Int.mul_nonneg h3.1 v0,?_⟩;rw[Int.natCast_mul];exact Int.mul_le_mul h3.2 v1 v0 (by omega)
    have s0:=bs.1;have s2:=bs.2.2.1;have m1:=bm s.1 s0.1 s0.2;have m2:=bm s.2.2.1 s2.1 s2.2;have n1:=mle s.1 s0.1 s0.2;have n2:=mle s.2.2.1 s2.1 s2.2
    cases t:s.2.2.1 !=0 with
    |true=>
     refine⟨(y.2.1+y.2.2.2.1 * s.1,(if y.2.2.2.2+s.2.1>y.2.2.1 then y.2.2.2.2+s.2.1 else y.2.2.1),y.2.2.2.1 * s.2.2.1,y.2.2.2.2+s.2.2.2),?_,r3 _ ?_⟩
     ·unfold bd at*;dsimp only;refine⟨by omega,by split<;>omega,by omega,by omega⟩
     ·simp only[EX,bu,d0,ix,kj,tK,tJ,vn,zv,z0,cn,t,m1,m2];rfl
    |false=>
     refine⟨(y.2.1+y.2.2.2.1 * s.1,(if y.2.2.2.2+s.2.1>y.2.2.1 then y.2.2.2.2+s.2.1 else y.2.2.1),y.2.2.2.1 * s.2.2.1,0),?_,r3 _ ?_⟩
     ·unfold bd at*;dsimp only;refine⟨by omega,by split<;>omega,by omega,by omega⟩
     ·simp only[EX,bu,d0,ix,kj,tK,tJ,vn,zv,z0,cn,t,m1,m2];rfl
  obtain⟨s2,b2,e2⟩:=key;have cc:=(cL (fn:=L (k'+2) .m7) [nd (.j4 x ps hs b)] (o:=Mq S) (by simp[ai,bz]) (eO S)).1 _ (fH s2) e2;simp only[List.cons_append,List.nil_append]at cc;refine wi _ s2 b2 ?_ fun s' cw=>?_
  ·rw[dN,Ma,Nat.add_mul,Nat.one_mul]
   have a1:(2 ^ c - 1) * (K4 b * (2 ^ c) ^ (dS b+1))+(K4 b * (2 ^ c) ^ (dS b+1))=K4 b * (2 ^ c) ^ (dS b+1+1):=by
    have sc:(2 ^ c - 1).succ=2 ^ c:=by omega
    rw[← Nat.succ_mul,sc,Nat.pow_succ (2 ^ c) (dS b+1),Nat.mul_comm,Nat.mul_assoc]
   have a2:2 ^ c≤(2 ^ c) ^ (dS b+1+1):=by have:=Nat.pow_le_pow_right q1 (show 1≤dS b+1+1 by omega);rw[Nat.pow_one]at this;exact this
   rw[a1];omega
  ·have i0:∀h,b_ (nd (.j4 x ps hs b)) (.int 0) h=.ok (.str tU) h:=fun h=>by rw[nd];rfl
   simp only[EX,aU,i0,d0,cc,cw]
theorem nS(S:List (List Nat×Sz))(c d k:Nat)(hS:∀x∈S,bd (2 ^ c - 1) x.2)(hc:8 * c+30≤134217728)(hd:d≤6)(ok:∀d',d'<d→Cc S c d')(hk:3 * d+3≤k)(a:PV):
  ∀(b:G8)(X:Nat)(s:Sz)(x3:Option PV),dS b≤d→O4 (S.map (·.1)) b=true→K4 b≤1000000→bd X s→∃s' y3,bd (X+K4 b * (2 ^ c) ^ (d+1)) s'∧
   aN (w6 3) (bT (F k) (L k)) (f9 b) [some a,some (.ref 0),some (M8 s),x3] [Mq S]=.nx [some a,some (.ref 0),some (M8 s'),y3] [Mq S]
 |.nil,X,s,x3,_,_,_,hs=>⟨s,x3,jX hs (Nat.le_add_right _ _),by rw[f9,aN]⟩
 |.cons n r,X,s,x3,dn,us,ct,hs=>by
  rw[dS]at dn;rw[O4,acf]at us;rw[K4]at ct;have m1:=Nat.le_max_left (dN n) (dS r);have m2:=Nat.le_max_right (dN n) (dS r);have q1:1≤2 ^ c:=Nat.one_le_two_pow;obtain⟨s1,b1,e1⟩:=yb S c d hS hc hd ok n k (by omega) us.1 (by omega) (by omega);have cc:=(cL (fn:=L k .o7) [nd n] (o:=Mq S) (by simp[ai,bz]) (eO S)).1 _ (fH s1) e1;simp only[List.cons_append,List.nil_append]at cc;obtain⟨k',rfl⟩:∃k',k=k'+1:=⟨k - 1,by omega⟩
  obtain⟨s2,b2,e2⟩:=Cy k' X _ s s1 hs b1;have cw:∀h,bj (F (k'+1) .D_) [M8 s,M8 s1] h=.ok (M8 s2) h:=fun h=>aM h rfl e2;have d0:aj [Mq S] (.ref 0)=.ref 0:=rfl;obtain⟨s3,y3,b3,e3⟩:=nS S c d (k'+1) hS hc hd ok hk a r _ s2 (some (nd n)) (by omega) us.2 (by omega) b2;refine⟨s3,y3,jX b3 ?_,?_⟩
  ·have h9:(Ma n+1) * (2 ^ c) ^ (dN n+1)≤(Ma n+1) * (2 ^ c) ^ (d+1):=Dq (acg _) q1 (by omega);rw[K4,Nat.add_mul (Ma n+1) (K4 r),← Nat.add_assoc];exact Nat.add_le_add_right (Nat.add_le_add_left h9 _) _
  ·have one:bT (F (k'+1)) (L (k'+1)) [some a,some (.ref 0),some (M8 s),some (nd n)] [Mq S]=.nx [some a,some (.ref 0),some (M8 s2),some (nd n)] [Mq S]:=by simp only[EX,bT,kj,d0,cc,cw]
   rw[f9];exact Eq.trans (jT rfl one) e3
theorem Fq(S:List (List Nat×Sz))(c:Nat)(hS:∀x∈S,bd (2 ^ c - 1) x.2)(hc:8 * c+30≤134217728):∀d,d≤6→Cc S c d:=by
 intro d
 induction d using Nat.strongRecOn with
 |ind d ih=>
  intro hd b k db us ct hk;obtain⟨k',rfl⟩:∃k',k=k'+1:=⟨k - 1,by omega⟩
  obtain⟨s,y3,bs,e⟩:=nS S c (dS b) k' hS hc (by omega) (fun d' h=>ih d' (by omega) (by omega)) (by omega) (.tup (f9 b)) b 0 (0,0,0,0) none (acg _) us ct (by unfold bd;dsimp only;omega);refine⟨s,by rw[Nat.zero_add]at bs;exact bs,?_⟩;have r2:L (k'+1) .g_ [.tup (f9 b),.ref 0] [Mq S]=match eD (F k') (L k') [some (.tup (f9 b)),some (.ref 0),none,none] [Mq S]with|.nx _ h1=>gk 1 .non h1|.rt v h1=>dX 1 v h1|_=>.bad:=rfl
  have fo:gD abt (w6 3) (bT (F k') (L k')) [some (.tup (f9 b)),some (.ref 0),some (M8 (0,0,0,0)),none] [Mq S]=aN (w6 3) (bT (F k') (L k')) (f9 b) [some (.tup (f9 b)),some (.ref 0),some (M8 (0,0,0,0)),none] [Mq S]:=rfl;have s0:aO 2 (cK (.tup kB)) [some (.tup (f9 b)),some (.ref 0),none,none] [Mq S]=.nx [some (.tup (f9 b)),some (.ref 0),some (M8 (0,0,0,0)),none] [Mq S]:=rfl;rw[r2];unfold eD;rw[cj,s0];dsimp only;rw[cj,fo,e];simp only[EX,kj];exact uF (fH s) (eO S)
mutual
theorem GC(E:List Pc)(m:Option Int)(w:List Int)(ns:List (List Nat)):∀n:Nd,Nz E m ns n=false→R9 E m w ns n=none→Qd (E.map (·.n)) n=true
 |.loop n _ b _,_,h=>by rw[R9]at h;rw[Qd];exact kS E m _ _ _ b h
 |.choice _ y n,_,h=>by rw[R9,Option.or_eq_none_iff]at h;rw[Qd,kS E m _ _ _ y h.1,kS E m _ _ _ n h.2];rfl
 |.j4 x ps hh b,e,h=>by
  rw[R9]at h;rw[Qd,kS E m _ _ _ b h,← oJ];rw[Nz,Bool.or_eq_false_iff]at e
  cases l:look E x with
  |none=>rw[l]at e;exact absurd e.2 (by simp)
  |some q=>rfl
 |.use x ps,e,_=>by
  rw[Qd,← oJ];rw[Nz,Bool.or_eq_false_iff]at e
  cases l:look E x with
  |none=>rw[l]at e;exact absurd e.2 (by simp)
  |some q=>rfl
 |.text _,_,_=>rfl
 |.place _ _,_,_=>rfl
 |.body _,_,_=>rfl
theorem kS(E:List Pc)(m:Option Int)(w:List Int)(k:Nat)(ns:List (List Nat)):∀b:G8,Qg E m w k ns b=none→O4 (E.map (·.n)) b=true
 |.nil,_=>rfl
 |.cons n r,h=>by
  rw[Qg]at h
  cases e:Nz E m ns n with
  |true=>rw[e,if_pos rfl]at h;cases h
  |false=>rw[e,if_neg (by decide),Option.or_eq_none_iff]at h;rw[O4,GC E m _ _ n e h.1,kS E m _ _ _ r h.2];rfl
end
noncomputable def cB:Nat→Nat
 |0=>0
 |j+1=>7 * cB j+21
theorem ES{i j:Nat}(h:i≤j):cB i≤cB j:=by
 induction h with
 |refl=>exact acg _
 |step _ ih=>rw[cB];omega
theorem nT(k:Nat)(hk:22≤k)(a:PV)(len:Nat):∀(r E:List Pc)(S:List (List Nat×Sz))(x2 x3:Option PV),E.length+r.length≤8→S.map (·.1)=E.map (·.n)→(∀x∈S,bd (2 ^ cB E.length - 1) x.2)→(∀q∈r,dS q.b≤6∧K4 q.b≤1000000)→QT len E r=none→
  ∃S' y2,S'.map (·.1)=(E++r).map (·.n)∧aN (w6 2) (gv (F k) (L k)) (r.map pc) [some a,some (.ref 0),x2,x3] [Mq S]=.nx [some a,some (.ref 0),y2,x3] [Mq S']
 |[],E,S,x2,x3,_,hn,_,_,_=>⟨S,x2,by rw[List.append_nil];exact hn,by rw[List.map_nil,aN]⟩
 |q::r,E,S,x2,x3,hl,hn,hS,hr,hf=>by
  rw[List.length_cons]at hl;have c7:cB E.length≤cB 7:=ES (by omega);have c8:cB 7=2882397:=by decide
  rw[QT]at hf
  split at hf
  ·cases hf
  ·rename_i nc;rw[Option.or_eq_none_iff]at hf;have us:=kS E q.m _ _ _ q.b hf.1;rw[← hn]at us;obtain⟨hd,Uz⟩:=hr q List.mem_cons_self;obtain⟨s,bs,e⟩:=Fq S (cB E.length) hS (by omega) (dS q.b) hd q.b k (acg _) us Uz (by omega);have cc:=(cL (fn:=L k .g_) [.tup (f9 q.b)] (o:=Mq S) (by simp[ai,PV.pure,aY]) (eO S)).1 _ (fH s) e;simp only[List.cons_append,List.nil_append]at cc;have d0:aj [Mq S] (.ref 0)=.ref 0:=rfl
   have nin:(S.map (·.1)).contains q.n=false:=by
    rw[hn]
    cases z:(E.map (·.n)).contains q.n with
    |false=>rfl
    |true=>rw[z]at nc;exact absurd rfl nc
   have pu:lG (S.map fun x=>(Sum.inr x.1,M8 x.2)) (.inr q.n) (M8 s)=(S++ [(q.n,s)]).map fun x=>(Sum.inr x.1,M8 x.2):=by
    have an:((S.map fun x=>((Sum.inr x.1:Int ⊕ List Nat),M8 x.2)).any fun kv=>decide (kv.1=.inr q.n))=false:=by
     rw[List.any_eq_false];intro kv hkv;obtain⟨p,hp,rfl⟩:=List.mem_map.mp hkv;intro z;have ee:p.1=q.n:=Sum.inr.inj (of_decide_eq_true z);have:(S.map (·.1)).contains q.n=true:=by rw[List.contains_iff_mem,← ee];exact List.mem_map.mpr ⟨p,hp,rfl⟩
     rw[nin]at this;cases this
    unfold lG;rw[an,if_neg (by decide),List.map_append];rfl
   have lS:S.length≤8:=by have:=congrArg List.length hn;rw[List.length_map,List.length_map]at this;omega
   have one:gv (F k) (L k) [some a,some (.ref 0),some (pc q),x3] [Mq S]=.nx [some a,some (.ref 0),some (pc q),x3] [Mq (S++ [(q.n,s)])]:=by
    have sz:(S.map fun x=>((Sum.inr x.1:Int ⊕ List Nat),M8 x.2)).length<16777216:=by rw[List.length_map];omega
    simp only[EX,gv,d0,cc];simp only[EX,Mq,sz,pu]
   have bs':bd (2 ^ cB (E.length+1) - 1) s:=jX bs (by
    have h1:K4 q.b * (2 ^ cB E.length) ^ (dS q.b+1)≤1000000 * (2 ^ cB E.length) ^ 7:=Dq Uz Nat.one_le_two_pow (by omega)
    have h2:2 ^ cB (E.length+1)=(2 ^ cB E.length) ^ 7 * 2097152:=by show 2 ^ (7 * cB E.length+21)=_;rw[Nat.pow_add,Nat.mul_comm 7,Nat.pow_mul]
    have h3:1≤(2 ^ cB E.length) ^ 7:=Nat.pow_pos Nat.one_le_two_pow;omega)
   have l1:(E++ [q]).length=E.length+1:=by simp
   obtain⟨S',y2,g1,g2⟩:=nT k hk a len r (E++ [q]) (S++ [(q.n,s)]) (some (pc q)) x3 (by rw[l1];omega) (by rw[List.map_append,List.map_append,hn];rfl) (fun x hx=>by
    rw[l1];rcases List.mem_append.mp hx with h|h
    ·exact jX (hS x h) (Nat.sub_le_sub_right (Nat.pow_le_pow_right (by decide) (ES (Nat.le_succ _))) _)
    ·cases List.mem_singleton.mp h;exact bs') (fun z hz=>hr z (List.mem_cons_of_mem _ hz)) hf.2
   refine⟨S',y2,by rw[g1];simp,?_⟩;rw[List.map_cons];exact Eq.trans (jT rfl one) g2
theorem nB{B:List Pc}{q:Pc}(h:List PO):b_ (bk (B++ [q])) (.int (-1)) h=.ok (pc q) h:=by
 show(match Np ((B++ [q]).map pc) (-1)with|some v=>Res.ok (aj h v) h|none=>Res.bad)=_;have:Np ((B++ [q]).map pc) (-1)=some (pc q):=by rw[List.map_append];exact uT _ _
 rw[this];rfl
theorem zA(k:Nat)(hk:22≤k)(B:List Pc)(q:Pc)(hl:B.length+1≤8)(hr:∀p∈B++ [q],dS p.b≤6∧K4 p.b≤1000000)(hf:QT (B.length+1) [] (B++ [q])=none):∃x y:Int,F (k+1) .sized [bk (B++ [q])]=.ok (.tup [.int x,.int y]):=by
 obtain⟨S,y2,g1,g2⟩:=nT k hk (bk (B++ [q])) (B.length+1) (B++ [q]) [] [] none none (by simp;omega) rfl (fun x hx=>by cases hx) hr hf;obtain⟨z,hz,iz⟩:=vT q.n S (by rw[g1];simp);refine⟨z.2.1,z.2.2.1,?_⟩
 have r2:F (k+1) .sized [bk (B++ [q])]=match nD (F k) (L k) [some (bk (B++ [q])),none,none,none] []with
  |.nx _ _=>.ok .non
  |.rt v h=>cr v h
  |_=>.bad:=rfl
 have fo:gD abt (w6 2) (gv (F k) (L k)) [some (bk (B++ [q])),some (.ref 0),none,none] [Mq []]=aN (w6 2) (gv (F k) (L k)) ((B++ [q]).map pc) [some (bk (B++ [q])),some (.ref 0),none,none] [Mq []]:=rfl;have s0:aO 1 xK [some (bk (B++ [q])),none,none,none] []=.nx [some (bk (B++ [q])),some (.ref 0),none,none] [Mq []]:=rfl;have d0:aj [Mq S] (.ref 0)=.ref 0:=rfl;rw[r2];unfold nD;rw[cj,s0];dsimp only;rw[cj,fo,g2];simp only[EX,nB,d0,iz,kj,tK,tJ];rfl
theorem Bb(i n:Nat)(l2:List PV)(h2:ai l2=true):∀(l1:List PV),ai l1=true→Q8 (l1++.ref i::l2)=[i]∧Rg n (l1++.ref i::l2)=l1++.ref n::l2∧ie (l1++.ref i::l2)=true
 |[],_=>by
  have e:∀(l:List PV),ai l=true→Q8 l= []∧(∀n,Rg n l=l)∧ie l=true:=fun l hl=>by
   induction l with
   |nil=>exact⟨rfl,fun _=>rfl,rfl⟩
   |cons p r ih=>
    rw[ai,acf]at hl;obtain⟨a,b,c⟩:=ih hl.2;have np:∀i,p≠.ref i:=fun i e=>by have:=hl.1;subst e;simp[PV.pure]at this
    have e:ie (p::r)=(p.pure&&ie r):=by cases p<;>first|rfl|exact(np _ rfl).elim
    refine⟨?_,fun n=>?_,by rw[e,hl.1,c];rfl⟩
    ·cases p<;>first|exact a|exact(np _ rfl).elim
    ·cases p<;>first|exact congrArg _ (b n)|exact(np _ rfl).elim
  obtain⟨a,b,c⟩:=e l2 h2;refine⟨?_,?_,c⟩
  ·show i::Q8 l2=_;rw[a]
  ·show PV.ref n::Rg (n+1) l2=_;rw[b];rfl
 |p::r,h=>by
  rw[ai,acf]at h;obtain⟨a,b,c⟩:=Bb i n l2 h2 r h.2;have np:∀i,p≠.ref i:=fun i e=>by have:=h.1;subst e;simp[PV.pure]at this
  have e:ie (p::(r++.ref i::l2))=(p.pure&&ie (r++.ref i::l2)):=by cases p<;>first|rfl|exact(np _ rfl).elim
  rw[List.cons_append];refine⟨?_,?_,by rw[e,h.1,c];rfl⟩
  ·cases p<;>first|exact a|exact(np _ rfl).elim
  ·cases p<;>first|exact congrArg _ b|exact(np _ rfl).elim
theorem dq{fn:List PV→List PO→Res PV}(l1 l2:List PV){h:List PO}{i:Nat}{o o':PO}{v:PV}(h1:ai l1=true)(h2:ai l2=true)(ho:h[i]? =some o)(oo:o.pure=true)(e:fn (l1++.ref 0::l2) [o]=.ok v [o'])(hv:v.pure=true)(Uw:o'.pure=true):
  cP fn (l1++.ref i::l2) h=.ok v (h.set i o'):=by
 obtain⟨q1,q2,q3⟩:=Bb i 0 l2 h2 l1 h1;have e4:gh h [i]=some [o]:=by simp[gh,ho]
 unfold cP;rw[q1,e4];dsimp only;rw[q3,q2,e];have e5:(true&&bN [o]&&hU [i])=true:=by simp[bN,oo,hU]
 rw[if_pos e5];dsimp only;rw[if_pos ⟨hv,by simp[bN,Uw],rfl⟩];rfl
inductive Hd where
 |nil
 |cons (b:G8) (i:Int) (h:Hd)
def hv:Hd→PV
 |.nil=>.non
 |.cons b i h=>.tup [.tup (f9 b),.int i,hv h]
noncomputable def VH(kn:List (List Nat)):Hd→Bool
 |.nil=>true
 |.cons b _ h=>O4 kn b&&(decide (K4 b≤1000000)&&VH kn h)
theorem rV:∀h:Hd,(hv h).pure=true
 |.nil=>rfl
 |.cons b i h=>by simp[hv,PV.pure,ai,aY,rV h]
theorem qw(h:List PO)(x:Hd):aj h (hv x)=hv x:=lR (h:=h) (rV x)
abbrev M6(i:Int):PO:=.lst [.int i]
theorem iD(i:Int):(M6 i).pure=true:=rfl
def Qx(t:Bool)(B:List Pc):PV:=if t then .tup (B.map pc)else .lst (B.map pc)
theorem uP(t:Bool)(B:List Pc):(Qx t B).pure=true:=by cases t<;>(unfold Qx;simp only[if_true,Bool.false_eq_true,if_false];rw[PV.pure];exact iC B)
theorem oW(t:Bool)(B:List Pc)(h:List PO):aj h (Qx t B)=Qx t B:=by cases t<;>rfl
theorem BP(t:Bool)(B:List Pc)(h:List PO):jq (Qx t B) h=.ok (B.map pc) h:=by cases t<;>rfl
theorem BO(t:Bool){B:List Pc}{i:Nat}{q:Pc}(e:B[i]? =some q)(h:List PO):b_ (Qx t B) (.int i) h=.ok (pc q) h:=by
 cases t with
 |true=>exact xr e h
 |false=>show b_ (.lst (B.map pc)) _ h=_;rw[uy,dJ (v:=pc q) (by omega) (by rw[Int.toNat_natCast,List.getElem?_map,e];rfl)];rfl
def wo(t:Bool)(B:List Pc)(j:Nat):Prop:=∀(b:G8)(hd:Hd)(i left:Int)(k:Nat),O4 (B.map (·.n)) b=true→K4 b≤1000000→VH (B.map (·.n)) hd=true→ -1≤left→j+1≤k→
 ∃left', -1≤left'∧L k .G4 [Qx t B,.tup (f9 b),.int i,hv hd,.int (41 - (j:Int)),.ref 0] [M6 left]=.ok .non [M6 left']
theorem EL(h:List PO)(xs:List PV):dU h (.lst xs)=true:=rfl
theorem xI(t:Bool)(B:List Pc)(lB:B.length≤1000)(x:List Nat)(us:(B.map (·.n)).contains x=true)(k:Nat)(a:PV)(hd:Hd)(i dp:Int)(n:PV)(x7 x8:Option PV):∃(q:Pc)(i':Nat),B[i']? =some q∧(∀h,nz (.lst ((B.map (·.n)).map PV.str)) [.str x] h=.ok (.int i') h)∧
  (∀h,bG dR (jg (F k)) (cJ [] [some (Qx t B),some a,some (.int i),some (hv hd),some (.int dp),some (.ref 0),some n,x7,x8]) (B.map pc) h=.ok ((B.map (·.n)).map PV.str) h)∧(B.map pc).length<16777216:=by
 have hi:(B.map (·.n)).idxOf x<(B.map (·.n)).length:=List.idxOf_lt_length_iff.mpr (List.contains_iff_mem.mp us);have hj:(B.map (·.n)).idxOf x<B.length:=by rw[List.length_map]at hi;exact hi
 refine⟨B[(B.map (·.n)).idxOf x],(B.map (·.n)).idxOf x,List.getElem?_eq_getElem hj,fun h=>?_,fun h=>?_,by rw[List.length_map];omega⟩
 ·show(match(some ((B.map (·.n)).map PV.str)).bind dv with|some ls=>if ls.length≤sizeLine∧ls.idxOf x<ls.length then Res.ok (PV.int (ls.idxOf x:Nat)) h else .bad|none=>.bad)=_;rw[Option.bind_some,eK];dsimp only;rw[if_pos ⟨by rw[List.length_map];exact Nat.le_trans lB (by decide),hi⟩]
 ·rw[List.map_map]
  exact rK pc _ B fun p hp=>by show jg (F k) [some (pc p)] h=_;simp only[EX,jg];rfl
theorem BM(t:Bool)(B:List Pc)(lB:B.length≤1000)(hB:∀q∈B,O4 (B.map (·.n)) q.b=true∧K4 q.b≤1000000)(j k:Nat)(hj:j≤40)(ok:∀j',j'<j→wo t B j')(hk:j≤k)(a:PV)(hd:Hd)(i left:Int)(n:Nd)(x7 x8:Option PV)
    (us:Qd (B.map (·.n)) n=true) (ct:Ma n≤1000000) (ho:VH (B.map (·.n)) hd=true) (hl: -1≤left):∃left' y7 y8, -1≤left'∧
    (bf (F k) (L k) [some (Qx t B),some a,some (.int i),some (hv hd),some (.int (41 - (j:Int))),some (.ref 0),some (nd n),x7,x8] [M6 left]=.rt .non [M6 left']∨
     bf (F k) (L k) [some (Qx t B),some a,some (.int i),some (hv hd),some (.int (41 - (j:Int))),some (.ref 0),some (nd n),x7,x8] [M6 left]=.nx [some (Qx t B),some a,some (.int i),some (hv hd),some (.int (41 - (j:Int))),some (.ref 0),some (nd n),y7,y8] [M6 left']):=by
  have S6:∀m:Int,b_ (.ref 0) (.int 0) [M6 m]=.ok (.int m) [M6 m]:=fun m=>rfl;have d0:∀m:Int,aj [M6 m] (.ref 0)=.ref 0:=fun m=>rfl;have st:∀(v m:Int) ρ,gB (.int v) (.ref 0) (.int 0) ρ [M6 m]=.nx ρ [M6 v]:=fun v m ρ=>rfl
  by_cases c1:left - 1<0
  · have z1:decide (left - 1<0)=true:=decide_eq_true c1
    exact⟨-1,x7,x8,by omega,.inl (by simp only[EX,bf,d0,S6,st,z1])⟩
  have z1:decide (left - 1<0)=false:=decide_eq_false c1
  cases j with
  |zero=>exact⟨-1,x7,x8,by omega,.inl (by simp only[EX,bf,d0,S6,st,z1];rfl)⟩
  |succ j=>
    have z2:decide (41 - ((j+1:Nat):Int)>40)=false:=decide_eq_false (by omega);have ad:41 - ((j+1:Nat):Int)+1=41 - (j:Int):=by omega
    have pu:∀(b:G8)(i':Int)(h':Hd),ai [Qx t B,.tup (f9 b),.int i',hv h',.int (41 - (j:Int))]=true:=fun b i' h'=>by simp[ai,uP,PV.pure,aY,rV]
    have go:∀(b:G8)(i':Int)(h':Hd),O4 (B.map (·.n)) b=true→K4 b≤1000000→VH (B.map (·.n)) h'=true→∃left', -1≤left'∧cP (L k .G4) [Qx t B,.tup (f9 b),.int i',hv h',.int (41 - (j:Int)),.ref 0] [M6 (left - 1)]=.ok .non [M6 left']:=fun b i' h' u c o=>by obtain⟨l',g1,g2⟩:=ok j (Nat.lt_succ_self _) b h' i' (left - 1) k u c o (by omega) (by omega);exact⟨l',g1,dq (fn:=L k .G4) [Qx t B,.tup (f9 b),.int i',hv h',.int (41 - (j:Int))] [] (pu b i' h') rfl rfl (iD _) g2 rfl (iD _)⟩
    cases n with
    |text s=>exact⟨left - 1,x7,x8,by omega,.inr (by simp only[EX,bf,d0,S6,st,z1,z2])⟩
    |place p s=>exact⟨left - 1,x7,x8,by omega,.inr (by simp only[EX,bf,d0,S6,st,z1,z2])⟩
    |loop x p b s=>rw[Qd]at us;rw[Ma]at ct;obtain⟨l',g1,g2⟩:=go b i hd us ct ho;exact⟨l',x7,x8,g1,.inr (by simp only[EX,bf,d0,S6,st,z1,z2,oW,qw,ad,g2])⟩
    |choice p y z=>rw[Qd,acf]at us;rw[Ma]at ct;obtain⟨l',g1,g2⟩:=go (RK y z) i hd (by rw[vg,us.1,us.2];rfl) (by rw[sE];exact ct) ho;rw[rJ]at g2;have aa:∀h,aq (.tup (f9 y)) (.tup (f9 z)) h=.ok (.tup (f9 y++f9 z)) h:=fun h=>dh _ _ h (by have:=jQ y;have:=jQ z;exact Nat.le_trans (by omega:_≤1000000) (by decide));exact⟨l',x7,x8,g1,.inr (by simp only[EX,bf,d0,S6,st,z1,z2,oW,qw,aa,ad,g2])⟩
    |body ps=>
      cases hd with
      |nil=>exact⟨left - 1,x7,x8,by omega,.inr (by simp only[EX,bf,d0,S6,st,z1,z2,hv])⟩
      |cons b i' h'=>
        rw[VH,acf,acf]at ho;obtain⟨l',g1,g2⟩:=go b i' h' ho.1 (of_decide_eq_true ho.2.1) ho.2.2;have e0:∀h,b_ (hv (.cons b i' h')) (.int 0) h=.ok (.tup (f9 b)) h:=fun h=>by rw[hv];rfl
        have e1:∀h,b_ (hv (.cons b i' h')) (.int 1) h=.ok (.int i') h:=fun h=>by rw[hv];rfl
        have e2:∀h,b_ (hv (.cons b i' h')) (.int 2) h=.ok (hv h') h:=fun h=>by rw[hv];show Res.ok (aj h (hv h')) h=_;rw[qw]
        have en:gJ (hv (.cons b i' h'))=false:=by rw[hv];rfl
        exact⟨l',x7,x8,g1,.inr (by simp only[EX,bf,d0,S6,st,z1,z2,oW,qw,e0,e1,e2,en,ad,g2])⟩
    |use x ps=>rw[Qd]at us;obtain⟨q,ax,hq,ia,cm,ll⟩:=xI t B lB x us k a hd i (41 - ((j+1:Nat):Int)) (nd (.use x ps)) x7 x8;obtain⟨l',g1,g2⟩:=go q.b ax .nil (hB q (List.mem_of_getElem? hq)).1 (hB q (List.mem_of_getElem? hq)).2 rfl;have g3:cP (L k .G4) [Qx t B,.tup (f9 q.b),.int ax,.non,.int (41 - (j:Int)),.ref 0] [M6 (left - 1)]=.ok .non [M6 l']:=g2;exact⟨l',some (.int ax),some .non,g1,.inr (by simp only[EX,bf,d0,S6,st,z1,z2,oW,BP,qw,cm,ll,ia,BO t hq,ad,EL,g3])⟩
    |j4 x ps hs b=>rw[Qd,acf]at us;rw[Ma]at ct;obtain⟨q,ax,hq,ia,cm,ll⟩:=xI t B lB x us.1 k a hd i (41 - ((j+1:Nat):Int)) (nd (.j4 x ps hs b)) x7 x8;obtain⟨l',g1,g2⟩:=go q.b ax (.cons b i hd) (hB q (List.mem_of_getElem? hq)).1 (hB q (List.mem_of_getElem? hq)).2 (by rw[VH,us.2,ho,decide_eq_true ct];rfl);have g3:cP (L k .G4) [Qx t B,.tup (f9 q.b),.int ax,.tup [.tup (f9 b),.int i,hv hd],.int (41 - (j:Int)),.ref 0] [M6 (left - 1)]=.ok .non [M6 l']:=g2;have dt:∀h,aj h (.tup [.tup (f9 b),.int i,hv hd])=.tup [.tup (f9 b),.int i,hv hd]:=fun h=>rfl;exact⟨l',some (.int ax),some (.tup [.tup (f9 b),.int i,hv hd]),g1,.inr (by simp only[EX,bf,d0,S6,st,z1,z2,oW,BP,qw,cm,ll,ia,BO t hq,ad,EL,dt,g3])⟩
theorem qA(t:Bool)(B:List Pc)(lB:B.length≤1000)(hB:∀q∈B,O4 (B.map (·.n)) q.b=true∧K4 q.b≤1000000)(j k:Nat)(hj:j≤40)(ok:∀j',j'<j→wo t B j')(hk:j≤k)(a:PV)(hd:Hd)(i:Int)(ho:VH (B.map (·.n)) hd=true):
    ∀(b:G8)(left:Int)(x6 x7 x8:Option PV),O4 (B.map (·.n)) b=true→K4 b≤1000000→ -1≤left→∃left' ρ', -1≤left'∧
      (aN (w6 6) (bf (F k) (L k)) (f9 b) [some (Qx t B),some a,some (.int i),some (hv hd),some (.int (41 - (j:Int))),some (.ref 0),x6,x7,x8] [M6 left]=.rt .non [M6 left']∨
       aN (w6 6) (bf (F k) (L k)) (f9 b) [some (Qx t B),some a,some (.int i),some (hv hd),some (.int (41 - (j:Int))),some (.ref 0),x6,x7,x8] [M6 left]=.nx ρ' [M6 left'])
  |.nil,left,x6,x7,x8,_,_,hl=>⟨left,_,hl,.inr (by rw[f9,aN])⟩
  |.cons n r,left,x6,x7,x8,us,ct,hl=>by
    rw[O4,acf]at us;rw[K4]at ct;obtain⟨l1,y7,y8,g1,g2⟩:=BM t B lB hB j k hj ok hk a hd i left n x7 x8 us.1 (by omega) ho hl;obtain⟨l2,ρ2,g3,g4⟩:=qA t B lB hB j k hj ok hk a hd i ho r l1 (some (nd n)) y7 y8 us.2 (by omega) g1
    have step:aN (w6 6) (bf (F k) (L k)) (f9 (.cons n r)) [some (Qx t B),some a,some (.int i),some (hv hd),some (.int (41 - (j:Int))),some (.ref 0),x6,x7,x8] [M6 left]=
        match bf (F k) (L k) [some (Qx t B),some a,some (.int i),some (hv hd),some (.int (41 - (j:Int))),some (.ref 0),some (nd n),x7,x8] [M6 left]with
        |.nx ρ2 h2=>aN (w6 6) (bf (F k) (L k)) (f9 r) ρ2 h2
        |.ct ρ2 h2=>aN (w6 6) (bf (F k) (L k)) (f9 r) ρ2 h2
        |.bk ρ2 h2=>.nx ρ2 h2
        |.rt v h2=>.rt v h2
        |.exc v h2=>.exc v h2
        |.bad=>.bad:=by rw[f9];rfl
    rw[step];rcases g2 with g2|g2
    · rw[g2];exact⟨l1,[],g1,.inl rfl⟩
    · rw[g2];exact⟨l2,ρ2,g3,g4⟩
theorem xH(t:Bool)(B:List Pc)(lB:B.length≤1000)(hB:∀q∈B,O4 (B.map (·.n)) q.b=true∧K4 q.b≤1000000):∀j,j≤40→wo t B j:=by
 intro j
 induction j using Nat.strongRecOn with
 |ind j ih=>
  intro hj b hd i left k us ct ho hl hk;obtain⟨k',rfl⟩:∃k',k=k'+1:=⟨k - 1,by omega⟩
  obtain⟨l',ρ',g1,g2⟩:=qA t B lB hB j k' hj (fun j' h=>ih j' h (by omega)) (by omega) (.tup (f9 b)) hd i ho b left none none none us ct hl;refine⟨l',g1,?_⟩;have r2:L (k'+1) .G4 [Qx t B,.tup (f9 b),.int i,hv hd,.int (41 - (j:Int)),.ref 0] [M6 left]=match aN (w6 6) (bf (F k') (L k')) (f9 b) [some (Qx t B),some (.tup (f9 b)),some (.int i),some (hv hd),some (.int (41 - (j:Int))),some (.ref 0),none,none,none] [M6 left]with|.nx _ h1=>gk 1 .non h1|.rt v h1=>dX 1 v h1|_=>.bad:=rfl
  rw[r2];rcases g2 with g2|g2<;>rw[g2]<;>rfl
theorem xo:∀(l:List PV),ai l=true→Q8 l= []∧(∀n,Rg n l=l)∧ie l=true
 |[],_=>⟨rfl,fun _=>rfl,rfl⟩
 |p::r,hl=>by
  rw[ai,acf]at hl;obtain⟨a,b,c⟩:=xo r hl.2;have np:∀i,p≠.ref i:=fun i e=>by have:=hl.1;subst e;simp[PV.pure]at this
  have e:ie (p::r)=(p.pure&&ie r):=by cases p<;>first|rfl|exact(np _ rfl).elim
  refine⟨?_,fun n=>?_,by rw[e,hl.1,c];rfl⟩
  ·cases p<;>first|exact a|exact(np _ rfl).elim
  ·cases p<;>first|exact congrArg _ (b n)|exact(np _ rfl).elim
theorem sM{fn:List PV→List PO→Res PV}(l:List PV)(hl:ai l=true):
  (∀v,v.pure=true→fn l []=.ok v []→cP fn l []=.ok v [])∧(∀v,v.pure=true→fn l []=.exc v []→cP fn l []=.exc v []):=by
 obtain⟨q1,q2,q3⟩:=xo l hl;refine⟨fun v hv e=>?_,fun v hv e=>?_⟩<;>
 ·unfold cP;rw[q1];show(if(ie l&&bN []&&hU [])=true then _ else _)=_;rw[q3,if_pos (by simp[bN,hU]),q2,e];dsimp only;rw[if_pos ⟨hv,rfl,rfl⟩];rfl
theorem tH(k:Nat)(b v:PV)(hb:b.pure=true)(hv:v.pure=true)(e:X_ k .h_ [b] []=.exc v []):(∀r,r.pure=true→v= .Og 6 r→F (k+1) .Mr [b]=.ok (.lst [.str [110,97,109,101],r]))∧(v=.cls 3→F (k+1) .Mr [b]=.ok (.lst [.str [109,97,110,121],.int 1])):=by
 have cc:=(sM (fn:=X_ k .h_) [b] (by rw[ai,hb];rfl)).2 v hv e
 have r2:F (k+1) .Mr [b]=match iH (F k) (X_ k) [some b,none,none] []with
  |.nx _ _=>.ok .non
  |.rt v h=>cr v h
  |_=>.bad:=rfl
 have db:aj [] b=b:=lR (h:=[]) hb
 have se:aS (cN cG (af (aZ ((X_ k) .h_) aah) ah)) [some b,none,none] []=.exc v []:=by simp only[EX,db,cc,Res.N5]
 rw[r2];unfold iH;rw[xB,se];refine⟨fun r hr z=>?_,fun z=>?_⟩
 ·subst z;have:cr (.lst [.str [110,97,109,101],r]) []=.ok (.lst [.str [110,97,109,101],r]):=bD (by simp[PV.pure,ai,hr]);exact this
 ·subst z;rfl
theorem Cp(k:Nat)(b v:PV)(hb:b.pure=true)(hv:v.pure=true)(e:X_ k .h_ [b] []=.ok v []):F (k+1) .Mr [b]=.ok (.lst [v]):=by
 have cc:=(sM (fn:=X_ k .h_) [b] (by rw[ai,hb];rfl)).1 v hv e
 have r2:F (k+1) .Mr [b]=match iH (F k) (X_ k) [some b,none,none] []with
  |.nx _ _=>.ok .non
  |.rt v h=>cr v h
  |_=>.bad:=rfl
 have db:aj [] b=b:=lR (h:=[]) hb
 have se:aS (cN cG (af (aZ ((X_ k) .h_) aah) ah)) [some b,none,none] []=.rt (.lst [v]) []:=by simp only[EX,db,cc]
 rw[r2];unfold iH;rw[xB,se];have:cr (.lst [v]) []=.ok (.lst [v]):=bD (by simp[PV.pure,ai,hv]);exact this
theorem DT(k:Nat)(B:List Pc)(q:Pc)(hk:45≤k)(lB:B.length+1≤8)(hw:∀p∈B++ [q],wC p=true)(hr:∀p∈B++ [q],dS p.b≤6∧K4 p.b≤1000000):
  (∀w,QT (B.length+1) [] (B++ [q])=some w→X_ (k+1) .h_ [bk (B++ [q])] []=.exc (.Og 6 (wy w)) [])∧
  (QT (B.length+1) [] (B++ [q])=none→X_ (k+1) .h_ [bk (B++ [q])] []=.exc (.cls 3) []∨X_ (k+1) .h_ [bk (B++ [q])] []=.ok (nms q.ns) []):=by
 obtain⟨k',rfl⟩:∃k',k=k'+1:=⟨k - 1,by omega⟩
 have l1:(B++ [q]).length=B.length+1:=by simp
 have nm:=AX k' (B++ [q]) (by omega) (by omega) hw;rw[l1]at nm;obtain⟨c1,c2⟩:=sM (fn:=X_ (k'+1) .j7) [bk (B++ [q])] (by rw[ai,cC];rfl)
 have r2:X_ (k'+1+1) .h_ [bk (B++ [q])] []=match cY (F (k'+1)) (X_ (k'+1)) [some (bk (B++ [q])),none] []with
   |.nx _ h1=>gk 0 .non h1
   |.rt v h1=>dX 0 v h1
   |.exc e h1=>sD 0 e h1
   |_=>.bad:=rfl
 refine⟨fun w hf=>?_,fun hf=>?_⟩
 ·rw[hf]at nm;have wp:(PV.Og 6 (wy w)).pure=true:=by rw[PV.pure];exact bS w
  have cc:=c2 _ wp nm;rw[r2];simp only[EX,cY,cc,Res.N5];simp[sD,bN,wp]
 ·rw[hf]at nm;have cc:=c1 .non rfl nm;obtain⟨x,y,sz⟩:=zA k' (by omega) B q lB hr hf;have cs:∀h,bj (F (k'+1) .sized) [bk (B++ [q])] h=.ok (.tup [.int x,.int y]) h:=fun h=>aM h (by rw[ai,cC];rfl) sz;rw[r2]
  cases e:decide (x>400)||decide (y>24)with
  |true=>
   left
   cases e1:decide (x>400)with
   |true=>simp only[EX,cY,cc,cs,e1];rfl
   |false=>rw[e1,Bool.false_or]at e;simp only[EX,cY,cc,cs,e1,e];rfl
  |false=>
   right
   rw[Bool.or_eq_false_iff]at e
   have fi:dX 0 (nms q.ns) []=.ok (nms q.ns) []:=by unfold dX;rw[iE _ (br _)];rfl
   simp only[EX,cY,cc,cs,e.1,e.2,nB,fi]
theorem zD{l m:List Nat}(h:sg l=true)(hm:∀c∈m,c∈l):sg m=true:=List.all_eq_true.mpr fun c hc=>List.all_eq_true.mp h c (hm c hc)
theorem jW{α:Type}{l:List α}{a b:Option Int}{x:α}(h:x∈cut l a b):x∈l:=by unfold cut at h;exact List.mem_of_mem_drop (List.mem_of_mem_take h)
theorem Fr{l:List Nat}(h:sg l=true)(a b:Option Int):sg (cut l a b)=true:=zD h fun _ hc=>jW hc
theorem zE{a b:List Nat}(ha:sg a=true)(hb:sg b=true):sg (a++b)=true:=by unfold sg at*;rw[List.all_append,ha,hb];rfl
theorem lV{α:Type}(l:List α)(a b:Option Int):(cut l a b).length≤l.length:=by unfold cut;rw[List.length_take,List.length_drop];omega
theorem sB{α β:Type}(f:α→β)(l:List α)(a b:Option Int):cut (l.map f) a b=(cut l a b).map f:=by unfold cut;rw[List.length_map,List.map_take,List.map_drop]
theorem zC{l:List (List Nat)}(h:Mu l=true):sg l.flatten=true:=List.all_eq_true.mpr fun c hc=>by obtain⟨x,hx,hc⟩:=List.mem_flatten.mp hc;exact List.all_eq_true.mp (List.all_eq_true.mp h x hx) c hc
theorem qS{l m:List (List Nat)}(h:Mu l=true)(hm:∀c∈m,c∈l):Mu m=true:=List.all_eq_true.mpr fun c hc=>List.all_eq_true.mp h c (hm c hc)
theorem Fj{l:List (List Nat)}(h:∀x∈l,x.length≤1):(l.map (fun l=>l.length)).sum≤l.length:=by
 induction l with
 |nil=>exact acg _
 |cons a r ih=>have:=ih fun x hx=>h x (List.mem_cons_of_mem _ hx);have:=h a List.mem_cons_self;simp only[List.map_cons,List.sum_cons,List.length_cons];omega
def X8(i:Int):Nat:=bY.getD (i % 26).toNat 0
theorem BQ:bY.length=26:=by decide
theorem BS(i:Int):Np bY (i % 26)=some (X8 i):=BT 0 (Int.emod_nonneg _ (by decide)) (by rw[BQ];exact Int.emod_lt_of_pos _ (by decide))
theorem BR(i:Int):sg [X8 i]=true:=by have h0:=Int.emod_nonneg i (by decide:(26:Int)≠0);have h1:=Int.emod_lt_of_pos i (by decide:(0:Int)<26);exact zD (l:=bY) (by decide) fun c hc=>by rw[List.mem_singleton.mp hc];exact jB (by rw[BQ];omega)
def w8(W:List (List Nat)):Prop:=W.length=8∧Mu W=true∧∀x∈W,x.length≤1
theorem qK{W V:List (List Nat)}(h:w8 W)(hm:∀x∈V,x∈W)(hl:V.length≤100)(hp:List PO):sg V.flatten=true∧V.flatten.length≤100∧lI (.str []) [.lst (V.map PV.str)] hp=.ok (.str V.flatten) hp:=by have s:=Fj fun x hx=>h.2.2 x (hm x hx);exact⟨zC (qS h.2.1 hm),by rw[List.length_flatten];exact Nat.le_trans s hl,Dg (by omega)⟩
theorem sQ(a b:List PV)(h:List PO)(q:a.length+b.length≤16777216):aq (.lst a) (.lst b) h=.ok (.lst (a++b)) h:=by show vF (.lst a) (.lst b) h=_;rw[GS,if_pos (Nat.le_trans q (by decide))]
theorem yD(k:Nat)(n:Int)(ρ:Ev)(j:Int)(hc:cJ [1,0,5] ρ=[some (.str bY),some (.int n),some (.int j)]):∃W,w8 W∧∀h,bG dR (jF (F k)) (cJ [1,0,5] ρ) ((List.range (Int.toNat 8)).map fun i=>PV.int (0+(i:Nat))) h=.ok (W.map PV.str) h:=by
 refine⟨(List.range 8).map fun(i:Nat)=>[X8 (n / 192+5 * (0+(i:Int))+3 * (j / 8) * (if decide (n % 3=0)=true then 1 else 0))],⟨by simp,List.all_eq_true.mpr fun x hx=>?_,fun x hx=>?_⟩,fun h=>?_⟩
 ·obtain⟨i,_,rfl⟩:=List.mem_map.mp hx;exact BR _
 ·obtain⟨i,_,rfl⟩:=List.mem_map.mp hx;exact acg _
 ·rw[hc,List.map_map];refine rK (fun i=>PV.int (0+(i:Nat))) _ (List.range 8) fun i _=>?_;have mi:∀x:Int,hZ x (if decide (n % 3=0)=true then 1 else 0)=true:=fun x=>oG (by split<;>decide);have az:=BS (n / 192+5 * (0+(i:Int))+3 * (j / 8) * (if decide (n % 3=0)=true then 1 else 0));have zl:bY.length≤16777216:=by decide
  simp only[EX,jF,mi,az,zl];rfl
theorem yE(k:Nat)(n sz ax:Int)(hs:0≤sz∧sz≤8)(ha:0≤ax∧ax<8)(j:Nat)(x6 x7:Option PV)(acc:List (List Nat))(la:acc.length<16777216)(rest:List PO):∃l Tt y6,sg l=true∧
  dF (F k) [some (.int n),some (.str bY),some (.int sz),some (.int ax),some (.ref 0),some (.int (0+(j:Nat))),x6,x7] (.lst (acc.map PV.str)::rest)=.nx [some (.int n),some (.str bY),some (.int sz),some (.int ax),some (.ref 0),some (.int (0+(j:Nat))),y6,x7] (.lst ((acc++ [l]).map PV.str)::Tt):=by
 obtain⟨W,hW,cm⟩:=yD k n [some (.int n),some (.str bY),some (.int sz),some (.int ax),some (.ref 0),some (.int (0+(j:Nat))),x6,x7] (0+(j:Nat)) rfl;have b8:QM 4611686018427387904 8=true:=rfl;have ln:((List.range (Int.toNat 8)).map fun i=>PV.int (0+(i:Nat))).length<16777216:=by decide
 have nl:∀(xs:List PV)(o:PO),Do xs (o::rest)=.ok (.ref (rest.length+1)) (o::(rest++ [.lst xs])):=fun _ _=>rfl;have d0:∀(xs:List PV) r,aj (.lst xs::r) (.ref 0)=.ref 0:=fun xs r=>rfl;have dW:∀(xs ys:List PV),aj (.lst xs::(rest++ [.lst ys])) (.ref (rest.length+1))=.ref (rest.length+1):=fun xs ys=>DO (acc:=ys) (by simp)
 have sW:∀(xs:List PV)(V:List (List Nat)) lo hi,cQ (.ref (rest.length+1)) lo hi (.lst xs::(rest++ [.lst (V.map PV.str)]))=.ok (.lst ((cut V lo hi).map PV.str)) (.lst xs::(rest++ [.lst (V.map PV.str)])):=fun xs V lo hi=>by
  show(match Rp (.lst xs::(rest++ [.lst (V.map PV.str)])) (.ref (rest.length+1))with|some ys=>Res.ok (PV.lst (cut ys lo hi)) _|none=>.bad)=_;have:Rp (.lst xs::(rest++ [.lst (V.map PV.str)])) (.ref (rest.length+1))=some (V.map PV.str):=by simp[Rp]
  rw[this,← sB]
 have ap:∀(l:List Nat) r,bV (.ref 0) [.str l] (.lst (acc.map PV.str)::r)=.ok .non (.lst (acc.map PV.str++ [.str l])::r):=fun l r=>by rw[GO,if_pos (by rw[List.length_map];exact Nat.lt_of_lt_of_le la (by decide))]
 have cl:∀(V:List (List Nat)) lo hi,V.length=8→(cut V lo hi).length≤100:=fun V lo hi h=>by have:=lV V lo hi;omega
 have ic:=GA
 by_cases q0:n % 3=0
 ·have e0:decide (n % 3=0)=true:=decide_eq_true q0;obtain⟨j1,_,j3⟩:=qK (V:=cut W none (some (1+(0+(j:Nat)) % 8))) hW (fun x hx=>jW hx) (cl _ _ _ hW.1) (.lst (acc.map PV.str)::(rest++ [.lst (W.map PV.str)]));refine⟨_,rest++ [.lst (W.map PV.str)],some (.ref (rest.length+1)),j1,?_⟩;simp only[EX,dF,b8,ln,cm,nl,e0,d0,dW,sW,ic,j3,ap,List.map_append]
 ·have e0:decide (n % 3=0)=false:=decide_eq_false q0
  by_cases q1:n % 3=1
  ·have e1:decide (n % 3=1)=true:=decide_eq_true q1;have az:=BS (n / 192+7 * (0+(j:Nat))+1);have ao:=BR (n / 192+7 * (0+(j:Nat))+1);have zl:bY.length≤16777216:=by decide
   generalize X8 (n / 192+7 * (0+(j:Nat))+1)=s at az ao
   have hV:w8 (W.set ax.toNat [s]):=by
    refine⟨by rw[List.length_set];exact hW.1,List.all_eq_true.mpr fun x hx=>?_,fun x hx=>?_⟩
    ·rcases List.mem_or_eq_of_mem_set hx with h|h
     ·exact List.all_eq_true.mp hW.2.1 x h
     ·subst h;exact ao
    ·rcases List.mem_or_eq_of_mem_set hx with h|h
     ·exact hW.2.2 x h
     ·subst h;exact acg _
   have si:∀ ρ,gB (.str [s]) (.ref (rest.length+1)) (.int ax) ρ (.lst (acc.map PV.str)::(rest++ [.lst (W.map PV.str)]))=.nx ρ (.lst (acc.map PV.str)::(rest++ [.lst ((W.set ax.toNat [s]).map PV.str)])):=fun ρ=>by
    unfold gB;have e2:mM (.lst (acc.map PV.str)::(rest++ [.lst (W.map PV.str)])) (.ref (rest.length+1))=some (rest.length+1,W.map PV.str):=by unfold mM;simp
    have e3:RD (W.map PV.str).length ax=some ax.toNat:=by unfold RD;rw[List.length_map,hW.1,if_pos ha.1,if_pos (by omega)]
    rw[e2];dsimp only;rw[e3];dsimp only;rw[List.set_cons_succ,List.set_append_right _ _ (acg _),Nat.sub_self,List.set_cons_zero,List.map_set]
   obtain⟨j1,_,j3⟩:=qK (V:=cut (W.set ax.toNat [s]) none (some sz)) hV (fun x hx=>jW hx) (cl _ _ _ hV.1) (.lst (acc.map PV.str)::(rest++ [.lst ((W.set ax.toNat [s]).map PV.str)]));refine⟨_,rest++ [.lst ((W.set ax.toNat [s]).map PV.str)],some (.ref (rest.length+1)),j1,?_⟩;simp only[EX,dF,b8,ln,cm,nl,e0,e1,d0,dW,sW,ic,az,zl,si,j3,ap,List.map_append]
  ·have e1:decide (n % 3=1)=false:=decide_eq_false q1;have l1:=cl W (some ((0+(j:Nat)) % 8)) none hW.1;have l2:=cl W none (some ((0+(j:Nat)) % 8)) hW.1;have l1':=lV W (some ((0+(j:Nat)) % 8)) none;have l2':=lV W none (some ((0+(j:Nat)) % 8));have w8l:=hW.1;have aa:=sQ ((cut W (some ((0+(j:Nat)) % 8)) none).map PV.str) ((cut W none (some ((0+(j:Nat)) % 8))).map PV.str) (.lst (acc.map PV.str)::(rest++ [.lst (W.map PV.str)])) (by rw[List.length_map,List.length_map];omega);rw[← List.map_append]at aa
   obtain⟨j1,j2,j3⟩:=qK (V:=cut W (some ((0+(j:Nat)) % 8)) none++cut W none (some ((0+(j:Nat)) % 8))) hW (fun x hx=>by rcases List.mem_append.mp hx with h|h<;>exact jW h) (by rw[List.length_append];omega) (.lst (acc.map PV.str)::(rest++ [.lst (W.map PV.str)]))
   have jl:(cut W (some ((0+(j:Nat)) % 8)) none++cut W none (some ((0+(j:Nat)) % 8))).flatten.length≤16777216:=by omega
   refine⟨_,rest++ [.lst (W.map PV.str)],some (.ref (rest.length+1)),Fr j1 none (some (8 - (0+(j:Nat)) / 8)),?_⟩;have ma:∀l,(acc++ [l]).map PV.str=acc.map PV.str++ [.str l]:=fun l=>by rw[List.map_append];rfl
   simp only[EX,dF,b8,ln,cm,nl,e0,e1,d0,dW,sW,ic,aa,j3,jl,ap,ma]
theorem qe(k:Nat)(n sz ax:Int)(hs:0≤sz∧sz≤8)(ha:0≤ax∧ax<8)(x7:Option PV):∀(js:List Nat)(x5 x6:Option PV)(acc:List (List Nat))(rest:List PO),acc.length+js.length<16777216→Mu acc=true→∃(ls:List (List Nat))(y5 y6:Option PV)(Tt:List PO),ls.length=acc.length+js.length∧Mu ls=true∧
  aN (w6 5) (dF (F k)) (js.map fun j=>PV.int (0+(j:Nat))) [some (.int n),some (.str bY),some (.int sz),some (.int ax),some (.ref 0),x5,x6,x7] (.lst (acc.map PV.str)::rest)=.nx [some (.int n),some (.str bY),some (.int sz),some (.int ax),some (.ref 0),y5,y6,x7] (.lst (ls.map PV.str)::Tt)
 |[],x5,x6,acc,rest,_,ho=>⟨acc,x5,x6,rest,rfl,ho,by rw[List.map_nil,aN]⟩
 |j::r,x5,x6,acc,rest,hl,ho=>by rw[List.length_cons]at hl;obtain⟨l,Wq,x6',ol,e⟩:=yE k n sz ax hs ha j x6 x7 acc (by omega) rest;obtain⟨ls,y5,y6,Wo,e1,e2,e3⟩:=qe k n sz ax hs ha x7 r (some (.int (0+(j:Nat)))) x6' (acc++ [l]) Wq (by rw[List.length_append,List.length_singleton];omega) (jL ho (by simp[Mu,ol]));refine⟨ls,y5,y6,Wo,by rw[e1,List.length_append];simp only[List.length_cons,List.length_nil];omega,e2,?_⟩;rw[List.map_cons];exact Eq.trans (jT rfl e) e3
noncomputable def J9(ms:List (List Nat)):PV:=.lst (ms.map PV.str)
theorem Gq(h:List PO)(ms:List (List Nat)):aj h (J9 ms)=J9 ms:=rfl
noncomputable def IH:List (List Nat):=[[97],[98],[97,98],[98,97],[105,116,101,109],[105,116,101,109,115],[99],[120],[120,121],[121],[114,111,119],[114,111,119,115]]
noncomputable def iO:List (List Nat):=[[97,115],[98,101,116,119,101,101,110],[98,111,100,121],[101,108,115,101],[101,110,100],[102,111,114],[105,102],[105,110],[112,105,101,99,101],[117,115,101],[119,105,116,104]]
theorem yI(k:Nat)(n:Int):∃ls:List (List Nat),ls.length=12∧Mu ls=true∧F (k+1) .Ms [.int n]=.ok (J9 ls):=by
 have s0:=Int.emod_nonneg (n / 3) (by decide:(8:Int)≠0);have s1:=Int.emod_lt_of_pos (n / 3) (by decide:(0:Int)<8);have t0:=Int.emod_nonneg (n / 24) (by omega:1+n / 3 % 8≠0);have t1:=Int.emod_lt_of_pos (n / 24) (by omega:0<1+n / 3 % 8);obtain⟨ls,y5,y6,rest,e1,e2,e3⟩:=qe k n (1+n / 3 % 8) (n / 24 % (1+n / 3 % 8)) (by omega) (by omega) none (List.range 12) none none [] [] (by simp) rfl;have YB:ls.length=12:=by rw[e1];simp
 have p4:decide (0<1+n / 3 % 8)=true:=decide_eq_true (by omega);have ZP:QM 4611686018427387904 12=true:=rfl;have r12:(List.range (Int.toNat 12))=List.range 12:=rfl;have Zy:aN (w6 5) (dF (F k)) ((List.range 12).map fun j=>PV.int (0+(j:Nat))) [some (.int n),some (.str bY),some (.int (1+n / 3 % 8)),some (.int (n / 24 % (1+n / 3 % 8))),some (.ref 0),none,none,none] [.lst []]=.nx [some (.int n),some (.str bY),some (.int (1+n / 3 % 8)),some (.int (n / 24 % (1+n / 3 % 8))),some (.ref 0),y5,y6,none] (.lst (ls.map PV.str)::rest):=e3;have d0:∀(xs:List PV) r,aj (.lst xs::r) (.ref 0)=.ref 0:=fun xs r=>rfl;have dz:∀(q:PV) r,aj (.K3 q::r) (.ref 0)=q:=fun xs r=>rfl;have sc:ls.length+1<scanBound:=by rw[YB];decide
 have lz:bZ (.ref 0) (.lst (ls.map PV.str)::rest)=.ok (.int (kE ls:Nat)) (.lst (ls.map PV.str)::rest):=by show(match dv (ls.map PV.str)with|some ls=>if ls.length+1<scanBound then Res.ok (PV.int (kE ls:Nat)) _ else .bad|none=>.bad)=_;rw[eK];dsimp only;rw[if_pos sc]
 have fd:∃b:Bool,(b=true→F (k+1) .Ms [.int n]=.ok (J9 IH))∧(b=false→F (k+1) .Ms [.int n]=.ok (J9 ls)):=by
  have r2:F (k+1) .Ms [.int n]=match gx (F k) [some (.int n),none,none,none,none,none,none,none] []with
   |.nx _ _=>.ok .non
   |.rt v h=>cr v h
   |_=>.bad:=rfl
  by_cases c1:((kE ls:Nat):Int)<12
  ·have z1:decide (((kE ls:Nat):Int)<12)=true:=decide_eq_true c1;refine⟨true,fun _=>?_,fun h=>by cases h⟩;rw[r2];simp only[EX,gx,p4,ZP,r12,Zy,d0,lz,z1];rfl
  ·have z1:decide (((kE ls:Nat):Int)<12)=false:=decide_eq_false c1
   have sq:jq (.ref 0) (.lst (ls.map PV.str)::rest)=.ok (ls.map PV.str) (.K3 (.lst (ls.map PV.str))::rest):=by
    show(match ij (.lst (ls.map PV.str)::rest) (.ref 0)with|some (.lst xs,h2)=>Res.ok xs h2|_=>.bad)=_
    have:ij (.lst (ls.map PV.str)::rest) (.ref 0)=some (.lst (ls.map PV.str),.K3 (.lst (ls.map PV.str))::rest):=by unfold ij;simp only[List.getElem?_cons_zero,fj,if_true,List.set_cons_zero]
    rw[this]
   have ln:(ls.map PV.str).length<16777216:=by rw[List.length_map,YB];decide
   have cm:∀ ρ h,cJ [7] ρ=[some (.lst (iO.map PV.str))]→bG (jp (F k)) (jE (F k)) (cJ [7] ρ) (ls.map PV.str) h=.ok ((ls.filter fun x=>decide (x∈iO)).map PV.str) h:=fun ρ h hc=>by
    rw[hc];refine jC PV.str (fun x=>decide (x∈iO)) PV.str ls (fun x hx=>?_) fun x hx=>?_
    ·have i1:=Dy (x:=x) (ls:=iO) (gA (List.all_eq_true.mp e2 x hx)) (by decide) h;simp only[EX,jp,i1]
    ·simp only[EX,jE]
   have nn:∀h,Ow (.lst ((ls.filter fun x=>decide (x∈iO)).map PV.str)) (.lst []) h=.ok (.bl (!((ls.filter fun x=>decide (x∈iO)).map PV.str).isEmpty)) h:=fun h=>rH (iG (qS e2 fun x hx=>(List.mem_filter.mp hx).1)) h;generalize(ls.filter fun x=>decide (x∈iO)).map PV.str=fl at cm nn;have UL:=cm [some (.int n),some (.str bY),some (.int (1+n / 3 % 8)),some (.int (n / 24 % (1+n / 3 % 8))),some (.ref 0),y5,y6,some (.lst (iO.map PV.str))] (.K3 (.lst (ls.map PV.str))::rest) rfl;simp only[iO,List.map_cons,List.map_nil]at UL;refine⟨!fl.isEmpty,fun h=>?_,fun h=>?_⟩
   ·rw[r2];simp only[EX,gx,p4,ZP,r12,Zy,d0,lz,z1,sq,ln,UL,nn,h];rfl
   ·rw[r2];have fi:cr (.lst (ls.map PV.str)) (.K3 (.lst (ls.map PV.str))::rest)=.ok (J9 ls):=bD (by rw[PV.pure];exact fj ls);simp only[EX,gx,p4,ZP,r12,Zy,d0,lz,z1,sq,ln,UL,nn,h,dz,fi]
 obtain⟨b,h1,h2⟩:=fd
 cases b with
 |true=>exact⟨IH,rfl,by decide,h1 rfl⟩
 |false=>exact⟨ls,YB,e2,h2 rfl⟩
theorem EE(n:Nd):sg (kT n)=true:=by cases n<;>rfl
noncomputable def Ut:Nd→Bool
 |.text _=>true
 |_=>false
theorem Du(n:Nd)(h:List PO):G9 (.str (kT n)) (.str tT) h=.ok (.bl (Ut n)) h:=by
 rw[EN (EE n) lK.1]
 cases n<;>rfl
noncomputable def U3:Nd→Nat
 |.text s=>s.length
 |_=>0
def Rf(l:List Nd):Nat:=(l.map U3).sum
noncomputable def Rh(l:List Nd):Nat:=(l.map fun n=>Ma n+1).sum
mutual
def Nm(b:Nat):Nd→Bool
 |.loop _ _ c _=>Qp b c
 |.choice _ y z=>Qp b y&&Qp b z
 |.use _ ps=>decide (ps.length≤b)
 |.j4 _ ps h c=>decide (ps.length≤b)&&(decide (h.length≤b)&&Qp b c)
 |.body ps=>decide (ps.length≤b)
 |_=>true
def Qp(b:Nat):G8→Bool
 |.nil=>true
 |.cons n r=>Nm b n&&Qp b r
end
structure Rw(kn:List (List Nat))(d c t:Nat)(l:List Nd):Prop where
 w:∀n∈l,wN n=true∧Qd kn n=true∧dN n≤d∧Nm 12 n=true
 c:Rh l≤c
 t:Rf l≤t
theorem sG(l:List Nd):l.length≤Rh l:=by
 induction l with
 |nil=>exact acg _
 |cons a r ih=>unfold Rh at*;rw[List.map_cons,List.sum_cons,List.length_cons];omega
theorem xG(a b:List Nd):Rh (a++b)=Rh a+Rh b:=by unfold Rh;rw[List.map_append,List.sum_append]
theorem nj(a b:List Nd):Rf (a++b)=Rf a+Rf b:=by unfold Rf;rw[List.map_append,List.sum_append]
theorem Rw.mono{kn:List (List Nat)}{d c t d' c' t':Nat}{l:List Nd}(h:Rw kn d c t l)(hd:d≤d')(hc:c≤c')(ht:t≤t'):Rw kn d' c' t' l:=
 ⟨fun n hn=>⟨(h.w n hn).1,(h.w n hn).2.1,Nat.le_trans (h.w n hn).2.2.1 hd,(h.w n hn).2.2.2⟩,Nat.le_trans h.c hc,Nat.le_trans h.t ht⟩
theorem Rw.app{kn:List (List Nat)}{d c t c' t':Nat}{l m:List Nd}(h:Rw kn d c t l)(g:Rw kn d c' t' m):Rw kn d (c+c') (t+t') (l++m):=
 ⟨fun n hn=>by rcases List.mem_append.mp hn with z|z<;>first|exact h.w n z|exact g.w n z,by rw[xG];exact Nat.add_le_add h.c g.c,by rw[nj];exact Nat.add_le_add h.t g.t⟩
theorem xA{l:List Nd}(h:∀n∈l,wN n=true∧dN n≤20):fds 59 (l.map nd):=by
 induction l with
 |nil=>exact bK _
 |cons a r ih=>have:=h a List.mem_cons_self;exact aB (bA (BC this.1) (by omega)) (ih fun n hn=>h n (List.mem_cons_of_mem _ hn))
theorem Gn{l:List PV}(hl:fds 59 l):Ow (.ref 0) (.lst []) [.lst l]=.ok (.bl (!l.isEmpty)) [.lst l]:=by
 have ok:Oe [.lst l] (.ref 0)=true:=by unfold Oe O2;have:=hl.2.1;simp only[List.getElem?_cons_zero,PyData.canLay0,PyData.depth,hl.1,Bool.true_and,decide_eq_true_eq];omega
 unfold Ow;rw[if_pos ⟨ok,rfl⟩]
 cases l<;>rfl
theorem fV:∀l:List Nd,ai (l.map nd)=true
 |[]=>rfl
 |a::r=>by rw[List.map_cons,ai,bz,fV r];rfl
theorem AL(k:Nat)(v:PV)(acc:List Nd)(n:Nd)(hf:∀n∈acc,wN n=true∧dN n≤20)(hl:acc.length<16777216)(ht:Rf acc+U3 n≤1000)(x2:Option PV):∃Qu,eJ (F k) [some v,some (.ref 0),some (nd n)] [.lst (acc.map nd)]=.nx [some v,some (.ref 0),some (nd n)] [.lst (Qu.map nd)]∧
  (Qu=acc++ [n]∨∃B u s,acc=B++ [.text u]∧n=.text s∧Qu=B++ [.text (u++s)]):=by
 have d0:∀xs:List PV,aj [.lst xs] (.ref 0)=.ref 0:=fun xs=>rfl;have li:∀xs,dU [.lst xs] (.ref 0)=true:=fun _=>rfl;have ne:=Gn (xA hf)
 have ap:bV (.ref 0) [nd n] [.lst (acc.map nd)]=.ok .non [.lst ((acc++ [n]).map nd)]:=by rw[GO,if_pos (by rw[List.length_map];exact Nat.lt_of_lt_of_le hl (by decide)),List.map_append];rfl
 cases t:Ut n with
 |false=>refine⟨acc++ [n],?_,.inl rfl⟩;simp only[EX,eJ,Du,t,d0,li,ap]
 |true=>
  obtain⟨s,rfl⟩:∃s,n=.text s:=by cases n<;>first|exact⟨_,rfl⟩|cases t
  rcases List.eq_nil_or_concat acc with rfl|⟨B,m,rfl⟩
  ·refine⟨[.text s],?_,.inl rfl⟩;have e0:(!(([]:List Nd).map nd).isEmpty)=false:=rfl;rw[e0]at ne;simp only[List.map_nil]at ne ap ⊢;simp only[EX,eJ,Du,t,d0,li,ne,ap]
  ·rw[List.concat_eq_append]at ne ap hl ht ⊢;have e0:(!((B++ [m]).map nd).isEmpty)=true:=by simp
   rw[e0]at ne
   have ixl:b_ (.ref 0) (.int (-1)) [.lst ((B++ [m]).map nd)]=.ok (nd m) [.lst ((B++ [m]).map nd)]:=by
    show(match Np ((B++ [m]).map nd) (-1)with|some v=>Res.ok (aj [.lst ((B++ [m]).map nd)] v) [.lst ((B++ [m]).map nd)]|none=>.bad)=_;have q:Np ((B++ [m]).map nd) (-1)=some (nd m):=by rw[List.map_append];exact uT _ _
    rw[q];show Res.ok (aj _ (nd m)) _=_;rw[gF]
   cases tm:Ut m with
   |false=>refine⟨B++ [m]++[.text s],?_,.inl rfl⟩;simp only[EX,eJ,Du,t,tm,d0,li,ne,ixl,ap]
   |true=>
    obtain⟨u,rfl⟩:∃u,m=.text u:=by cases m<;>first|exact⟨_,rfl⟩|cases tm
    refine⟨B++ [.text (u++s)],?_,.inr ⟨B,u,s,rfl,rfl,rfl⟩⟩;have al:u.length+s.length≤16777216:=by rw[nj]at ht;simp only[Rf,List.map_cons,List.map_nil,List.sum_cons,List.sum_nil,U3]at ht;omega
    have st:∀ ρ v,gB v (.ref 0) (.int (-1)) ρ [.lst ((B++ [Nd.text u]).map nd)]=.nx ρ [.lst (B.map nd++ [v])]:=fun ρ v=>by
     show(match RD ((B++ [Nd.text u]).map nd).length (-1)with|some j=>SR.nx ρ [.lst (((B++ [Nd.text u]).map nd).set j v)]|none=>.bad)=_;have:RD ((B++ [Nd.text u]).map nd).length (-1)=some B.length:=by unfold RD;simp;omega
     rw[this];dsimp only;rw[List.map_append]
     congr 3
     rw[List.set_append_right _ _ (by simp)];simp
    have i1:∀z h,b_ (nd (.text z)) (.int 1) h=.ok (.str z) h:=fun z h=>by rw[nd];rfl
    have ma:(B++ [Nd.text (u++s)]).map nd=B.map nd++ [.tup [.str tT,.str (u++s)]]:=by simp[nd]
    simp only[EX,eJ,Du,t,tm,d0,li,ne,ixl,st,i1,al,ma]
theorem uk(kn:List (List Nat))(d c t k:Nat)(hd:d≤20)(hc:c≤1000000)(ht:t≤1000)(v:PV):∀(r acc:List Nd)(x2:Option PV),Rw kn d c t (acc++r)→∃Qu y2,Rw kn d c t Qu∧
  aN (w6 2) (eJ (F k)) (r.map nd) [some v,some (.ref 0),x2] [.lst (acc.map nd)]=.nx [some v,some (.ref 0),y2] [.lst (Qu.map nd)]
 |[],acc,x2,h=>⟨acc,x2,by rw[List.append_nil]at h;exact h,by rw[List.map_nil,aN]⟩
 |n::r,acc,x2,h=>by
  have hl:=sG (acc++n::r);have Zg:=h.c;have htt:=h.t;rw[List.length_append,List.length_cons]at hl;have e1:Rf (acc++n::r)=Rf acc+(U3 n+Rf r):=by rw[nj];rfl
  obtain⟨Xc,s1,s2⟩:=AL k v acc n (fun z hz=>⟨(h.w z (List.mem_append_left _ hz)).1,Nat.le_trans (h.w z (List.mem_append_left _ hz)).2.2.1 hd⟩) (by omega) (by omega) x2
  have h1:Rw kn d c t (Xc++r):=by
   rcases s2 with rfl|⟨B,u,s,rfl,rfl,rfl⟩
   ·rw[List.append_assoc];exact h
   ·have wu:=h.w (.text u) (by simp);have ws:=h.w (.text s) (by simp);refine⟨fun z hz=>?_,?_,?_⟩
    ·rw[List.append_assoc]at hz;rcases List.mem_append.mp hz with z1|z1
     ·exact h.w z (by simp[z1])
     ·rcases List.mem_cons.mp z1 with z2|z2
      ·subst z2;refine⟨?_,rfl,Nat.zero_le _,rfl⟩;have a1:=wu.1;have a2:=ws.1;rw[wN]at a1 a2 ⊢;exact zE a1 a2
      ·exact h.w z (by simp[show z∈r from z2])
    ·have:=h.c;simp only[xG]at this ⊢;simp only[Rh,List.map_cons,List.map_nil,List.sum_cons,List.sum_nil,Ma]at this ⊢;omega
    ·have:=h.t;simp only[nj]at this ⊢;simp only[Rf,List.map_cons,List.map_nil,List.sum_cons,List.sum_nil,U3,List.length_append]at this ⊢;omega
  obtain⟨ZV,y2,r1,r2⟩:=uk kn d c t k hd hc ht v r Xc (some (nd n)) h1;refine⟨ZV,y2,r1,?_⟩;rw[List.map_cons];exact Eq.trans (jT rfl s1) r2
noncomputable def tv(b:Bool)(xs:List PV):PV:=if b then .tup xs else .lst xs
theorem Hg(b:Bool)(xs:List PV)(h:List PO):aj h (tv b xs)=tv b xs:=by cases b<;>rfl
theorem Hf(b:Bool)(xs:List PV)(h:List PO):jq (tv b xs) h=.ok xs h:=by cases b<;>rfl
theorem vJ(kn:List (List Nat))(d c t k:Nat)(hd:d≤20)(hc:c≤1000000)(ht:t≤1000)(b:Bool)(l:List Nd)(h:Rw kn d c t l):∃l',Rw kn d c t l'∧F (k+1) .Nk [tv b (l.map nd)]=.ok (.tup (l'.map nd)):=by
 obtain⟨l',y2,r1,r2⟩:=uk kn d c t k hd hc ht (tv b (l.map nd)) l [] none h;refine⟨l',r1,?_⟩
 have e2:F (k+1) .Nk [tv b (l.map nd)]=match nE (F k) [some (tv b (l.map nd)),none,none] []with
   |.nx _ _=>.ok .non
   |.rt v h=>cr v h
   |_=>.bad:=rfl
 have r2':aN (w6 2) (eJ (F k)) (l.map nd) [some (tv b (l.map nd)),some (.ref 0),none] [.lst []]=.nx [some (tv b (l.map nd)),some (.ref 0),y2] [.lst (l'.map nd)]:=r2;have d0:∀xs:List PV,aj [.lst xs] (.ref 0)=.ref 0:=fun xs=>rfl;have tp:fx [.ref 0] [.lst (l'.map nd)]=.ok (.tup (l'.map nd)) [.lst (l'.map nd)]:=rfl;rw[e2];simp only[EX,nE,Hg,Hf,r2',d0,tp];exact bD (by rw[PV.pure];exact fV l')
noncomputable def cv(cs:List Int):PV:=.O7 (cs.map PV.int)
theorem ji(cs:List Int):(cv cs).pure=true:=by
 unfold cv;rw[PV.pure]
 induction cs with
 |nil=>rfl
 |cons a r ih=>rw[List.map_cons,ai,ih];rfl
theorem BK(cs:List Int)(h:List PO):aj h (cv cs)=cv cs:=rfl
abbrev J4(n m:Int):PO:=.lst [.int n,.int m]
theorem bL(n m:Int):(J4 n m).pure=true:=rfl
theorem DR(k:Nat)(cs:List Int)(hc:cs.length≤63)(n m:Int)(h0:0≤n)(h1:n≤2000000):∃v,0≤v∧v<400000000∧L (k+1) .K1 [cv cs,.ref 0] [J4 n m]=.ok (.int v) [J4 (n+1) m]:=by
 have S6:∀i:Int,b_ (.ref 0) (.int 0) [J4 i m]=.ok (.int i) [J4 i m]:=fun m=>rfl;have d0:∀i:Int,aj [J4 i m] (.ref 0)=.ref 0:=fun m=>rfl;have st:∀ ρ,gB (.int (n+1)) (.ref 0) (.int 0) ρ [J4 n m]=.nx ρ [J4 (n+1) m]:=fun ρ=>rfl;have ln:∀h,bF [.O7 (cs.map PV.int)] h=.ok (.int cs.length) h:=fun h=>by rw[EA,List.length_map]
 have m3:∀x:Int,hZ x (n+1)=true:=fun x=>oG (cT.mpr ⟨by omega,by omega⟩);have fin:∀b:Int,0≤b * 48271 % 2147483647 / 7∧b * 48271 % 2147483647 / 7<400000000:=fun b=>by omega
 have ct:∀v:Int,dX 1 (.int v) [J4 (n+1) m]=.ok (.int v) [J4 (n+1) m]:=fun v=>rfl
 cases cs with
 |nil=>
  refine⟨_,(fin (31 * (n+1) * (n+1)+7919 * (n+1))).1,(fin _).2,?_⟩;show eY (iI (F k)) 2 4 [.O7 [],.ref 0] [J4 n m]=_;have ln0:∀h,bF [.O7 []] h=.ok (.int 0) h:=fun h=>rfl;have g0:decide ((0:Int)<0)=false:=by decide
  simp -implicitDefEqProofs only [EX,BK,eY,iI,S6,d0,st,ln0,m3,ct,Int.reduceLT]
 |cons a r=>
  have Rr:(0:Int)<(((a::r).length:Nat):Int):=by rw[List.length_cons];omega
  have hl1:(((a::r).length:Nat):Int)<1073741824:=by omega
  have q0:0≤(n+1) % (((a::r).length:Nat):Int):=Int.emod_nonneg _ (by omega);have q1:(n+1) % (((a::r).length:Nat):Int)<(((a::r).length:Nat):Int):=Int.emod_lt_of_pos _ Rr
  have ax:Np ((a::r).map PV.int) ((n+1) % (((a::r).length:Nat):Int))=some (.int ((a::r).getD ((n+1) % (((a::r).length:Nat):Int)).toNat 0)):=by refine dJ q0 ?_;rw[List.getElem?_map,List.getD_eq_getElem?_getD,List.getElem?_eq_getElem (by omega)];rfl
  have dv0:0≤(n+1) / (((a::r).length:Nat):Int):=Int.ediv_nonneg (by omega) (by omega);have dv1:(n+1) / (((a::r).length:Nat):Int)≤n+1:=Int.ediv_le_self _ (by omega);have m5:∀x:Int,hZ x (1+(n+1) / (((a::r).length:Nat):Int))=true:=fun x=>oG (cT.mpr ⟨by omega,by omega⟩);have p3:decide ((0:Int)<(((a::r).length:Nat):Int))=true:=decide_eq_true Rr;have p4:decide ((0:Int)<(((a::r).length:Nat):Int)∧(((a::r).length:Nat):Int)<1073741824)=true:=decide_eq_true ⟨Rr,hl1⟩;unfold cv;generalize hL:(((a::r).length:Nat):Int)=Ln at*;generalize hC:(a::r).map PV.int=cl at*;refine⟨_,(fin (31 * (n+1) * (n+1)+7919 * (n+1)+(a::r).getD ((n+1) % Ln).toNat 0 * (1+(n+1) / Ln))).1,(fin _).2,?_⟩;show eY (iI (F k)) 2 4 [.O7 cl,.ref 0] [J4 n m]=_;simp -implicitDefEqProofs only [EX,BK,eY,iI,S6,d0,st,ln,p3,ax,m3,m5,p4,ct]
structure Pe where
 n:List Nat
 m:Nat
 h:Option Int
def M4(p:Pe):PV:=.tup [.str p.n,.int p.m,G_ p.h]
structure At where
 ns:List (List Nat)
 ps:List Pe
 h:Option Int
 ms:List (List Nat)
abbrev kN:List Nat:=[110,97,109,101,115]
abbrev kP:List Nat:=[112,105,101,99,101,115]
abbrev kH:List Nat:=[104,97,110,100,101,100]
abbrev kM:List Nat:=[109,101,110,117]
def av(A:At):PV:=.dct [(.inr kN,nms A.ns),(.inr kP,.lst (A.ps.map M4)),(.inr kH,G_ A.h),(.inr kM,J9 A.ms)]
def hO:Option Int→Prop
 |none=>True
 |some i=>0≤i∧i≤3
structure TX(j:Nat)(A:At):Prop where
 n:Mu A.ns=true
 l:A.ns.length≤j
 pl:A.ps.length≤1000
 p:∀p∈A.ps,sg p.n=true∧p.m≤4∧hO p.h
 h:hO A.h
 ml:A.ms.length=12
 m:Mu A.ms=true
theorem oH(m:Option Int):(G_ m).pure=true:=by cases m<;>rfl
theorem gG(m:List (List Nat)):(J9 m).pure=true:=by unfold J9;rw[PV.pure];exact fj m
theorem mw:∀l:List Pe,ai (l.map M4)=true
 |[]=>rfl
 |a::r=>by rw[List.map_cons,ai,mw r];simp[M4,PV.pure,ai,oH]
theorem gr(A:At):(av A).pure=true:=by simp[av,PV.pure,eI,br,mw,oH,gG]
section
variable(A:At)(h:List PO)
theorem IK:aj h (av A)=av A:=rfl
theorem KO:b_ (av A) (.str kN) h=.ok (nms A.ns) h:=rfl
theorem KN:b_ (av A) (.str kP) h=.ok (.lst (A.ps.map M4)) h:=rfl
theorem KQ:b_ (av A) (.str kH) h=.ok (G_ A.h) h:=by show Res.ok (aj h (G_ A.h)) h=_;rw[jv]
theorem KP:b_ (av A) (.str kM) h=.ok (J9 A.ms) h:=rfl
end
local macro_rules | `(tactic| simp $c:optConfig only [EY,$xs,*])=>do let a←(("Gq BK IK KO KN KQ KP".splitOn.map fun n=>n.toName)).toArray.mapM fun n=>`(Lean.Parser.Tactic.simpLemma| $(Lean.mkIdent n):term);`(tactic| simp $c:optConfig only [EX,$a,*,$xs,*])
theorem gH{ms:List (List Nat)}(hl:ms.length=12)(hs:Mu ms=true)(i:Int)(h0:0≤i)(h1:i<12):∃l,sg l=true∧(∀h,b_ (J9 ms) (.int i) h=.ok (.str l) h)∧l∈ms:=by
 have hi:i.toNat<ms.length:=by omega
 refine⟨ms.getD i.toNat [],List.all_eq_true.mp hs _ (jB hi),fun h=>?_,jB hi⟩;unfold J9;rw[uy,dJ (v:=PV.str (ms.getD i.toNat [])) h0 (by rw[List.getElem?_map,List.getD_eq_getElem?_getD,List.getElem?_eq_getElem hi];rfl)];rfl
theorem ba(x:Int){m:Int}(h:0<m):0≤x % m∧x % m<m:=⟨Int.emod_nonneg _ (by omega),Int.emod_lt_of_pos _ h⟩
theorem vN{α:Type}{te:Ex}{cp:Ev}{h:List PO}(f:α→PV)(R:List Nat→Prop):∀l:List α,(∀x∈l,∃s,R s∧te (some (f x)::cp) h=.ok (.str s) h)→∃ss:List (List Nat),ss.length=l.length∧(∀s∈ss,R s)∧bG dR te cp (l.map f) h=.ok (ss.map PV.str) h
 |[],_=>⟨[],rfl,by simp,rfl⟩
 |x::r,hx=>by
  obtain⟨s,h1,h2⟩:=hx x List.mem_cons_self;obtain⟨ss,g0,g1,g2⟩:=vN f R r fun z hz=>hx z (List.mem_cons_of_mem _ hz);refine⟨s::ss,by simp[g0],fun z hz=>?_,?_⟩
  ·rcases List.mem_cons.mp hz with q|q
   ·subst q;exact h1
   ·exact g1 z q
  ·rw[List.map_cons,bG];simp only[dR,Res.Mj,if_true,h2,g2,List.map_cons]
theorem ow(k:Nat){j:Nat}(A:At)(hA:TX j A)(hn:A.ns≠ [])(lj:j≤1000)(n:Int):∃p,wp p=true∧F (k+1) .I_ [.int n,av A]=.ok (MF p):=by
 obtain⟨m0,m1⟩:=ba (n / 13) (by decide:(0:Int)<6)
 obtain⟨c,hc0,hc3,ec⟩:∃c:Int,0≤c∧c≤3∧Np [PV.int 0,.int 0,.int 1,.int 2,.int 3,.int 1] (n / 13 % 6)=some (.int c):=by rcases(show n / 13 % 6=0∨n / 13 % 6=1∨n / 13 % 6=2∨n / 13 % 6=3∨n / 13 % 6=4∨n / 13 % 6=5 by omega)with q|q|q|q|q|q<;>rw[q]<;>exact⟨_,by decide,by decide,rfl⟩
 have bc:QM 4611686018427387904 c=true:=cT.mpr ⟨by omega,by omega⟩
 obtain⟨ss,g0,g1,g2⟩:=vN (te:=ik (F k)) (cp:=[some (av A),some (.int n)]) (h:=[]) (fun i:Nat=>PV.int (0+(i:Nat))) (fun s=>sg s=true) (List.range c.toNat) fun i _=>by obtain⟨q0,q1⟩:=ba (n / 97+5 * (0+(i:Nat))) (by decide:(0:Int)<12);obtain⟨l,l1,l2,_⟩:=gH hA.ml hA.m _ q0 q1;exact⟨l,l1,by simp only[EY,ik,l2]⟩
 have l3:((List.range c.toNat).map fun i=>PV.int (0+(i:Nat))).length<16777216:=by rw[List.length_map,List.length_range];omega
 have Rr:(0:Int)<(A.ns.length:Nat):=by have:=List.length_pos_iff.mpr hn;omega
 obtain⟨q0,q1⟩:=ba n Rr;have p5:decide ((0:Int)<(A.ns.length:Nat))=true:=decide_eq_true Rr;have hi:(n % (A.ns.length:Nat)).toNat<A.ns.length:=by omega
 have ix:∀h,b_ (nms A.ns) (.int (n % (A.ns.length:Nat))) h=.ok (.str (A.ns.getD (n % (A.ns.length:Nat)).toNat [])) h:=fun h=>by unfold nms;rw[ux,dJ (v:=PV.str (A.ns.getD (n % (A.ns.length:Nat)).toNat [])) q0 (by rw[List.getElem?_map,List.getD_eq_getElem?_getD,List.getElem?_eq_getElem hi];rfl)];rfl
 refine⟨⟨A.ns.getD (n % (A.ns.length:Nat)).toNat [],ss⟩,?_,?_⟩
 ·rw[wp,acf];exact⟨List.all_eq_true.mp hA.n _ (jB hi),by rw[acf];exact⟨List.all_eq_true.mpr g1,decide_eq_true (by show ss.length≤10;rw[g0,List.length_range];omega)⟩⟩
 ·have r2:F (k+1) .I_ [.int n,av A]=match gW (F k) [some (.int n),some (av A),none] []with
   |.nx _ _=>.ok .non
   |.rt v h=>cr v h
   |_=>.bad:=rfl
  have cp:∀x,cJ [1,0] [some (.int n),some (av A),x]=[some (av A),some (.int n)]:=fun _=>rfl;have aa:∀h,aq (.tup [.str (A.ns.getD (n % (A.ns.length:Nat)).toNat [])]) (.tup (ss.map PV.str)) h=.ok (MF ⟨A.ns.getD (n % (A.ns.length:Nat)).toNat [],ss⟩) h:=fun h=>dh _ _ h (by rw[List.length_map,g0,List.length_range];exact Nat.le_trans (by simp;omega:_≤10) (by decide));have dp:∀h,aj h (PV.tup (ss.map PV.str))=.tup (ss.map PV.str):=fun _=>rfl;rw[r2];simp only[EY,gW,ec,bc,l3,cp,g2,p5,ix,aa,dp];exact bD (eQ _)
theorem sv{α β:Type}{te:Ex}{cp:Ev}{m:Int}(f:α→PV)(g:β→PV)(R:β→Prop)(c:Int)(hc:0≤c)(hi:Int):∀(l:List α)(n:Int),0≤n→n+c * l.length≤hi→(∀x∈l,∀n,0≤n→n+c≤hi→∃y n',R y∧n≤n'∧n'≤n+c∧te (some (f x)::cp) [J4 n m]=.ok (g y) [J4 n' m])→
  ∃(ys:List β)(n':Int),ys.length=l.length∧(∀y∈ys,R y)∧n≤n'∧n'≤n+c * l.length∧bG dR te cp (l.map f) [J4 n m]=.ok (ys.map g) [J4 n' m]
 |[],n,_,_,_=>⟨[],n,rfl,by simp,Int.le_refl _,by simp,rfl⟩
 |x::r,n,h0,hn,hx=>by
  have e:c * ((x::r).length:Int)=c * (r.length:Int)+c:=by rw[List.length_cons,Int.natCast_add,Int.mul_add];simp
  have hr:0≤c * (r.length:Int):=Int.mul_nonneg hc (by omega);rw[e]at hn;obtain⟨y,n1,y1,y2,y3,y4⟩:=hx x List.mem_cons_self n h0 (by omega);obtain⟨ys,n2,z0,z1,z2,z3,z4⟩:=sv f g R c hc hi r n1 (by omega) (by omega) fun z hz=>hx z (List.mem_cons_of_mem _ hz);refine⟨y::ys,n2,by simp[z0],fun z hz=>?_,by omega,by rw[e];omega,?_⟩
  ·rcases List.mem_cons.mp hz with q|q
   ·subst q;exact y1
   ·exact z1 z q
  ·rw[List.map_cons,bG];simp only[dR,Res.Mj,if_true,y4,z4,List.map_cons]
theorem gw(k:Nat)(cs:List Int)(hc:cs.length≤63)(n m:Int)(h0:0≤n)(h1:n≤2000000)(r:List PO):∃v,0≤v∧v<400000000∧cP (L (k+1) .K1) [cv cs,.ref 0] (J4 n m::r)=.ok (.int v) (J4 (n+1) m::r):=by obtain⟨v,v0,v1,e⟩:=DR k cs hc n m h0 h1;exact⟨v,v0,v1,dq (fn:=L (k+1) .K1) [cv cs] [] (by rw[ai,ji];rfl) rfl rfl (bL _ _) e rfl (bL _ _)⟩
theorem Ab(l:List Mz):l.map MF=bg l:=rfl
theorem ug(k:Nat){j:Nat}(cs:List Int)(hc:cs.length≤63)(A:At)(hA:TX j A)(lj:j≤1000)(c:Int)(c0:0≤c)(c4:c≤4)(hn:c=0∨A.ns≠ [])(n m:Int)(h0:0≤n)(h1:n≤1900000):
  ∃ps n',(wps ps=true∧ps.length≤12)∧n≤n'∧n'≤n+4∧L (k+2) .B_ [cv cs,.ref 0,av A,.int c] [J4 n m]=.ok (.tup (bg ps)) [J4 n' m]:=by
 have bc:QM 4611686018427387904 c=true:=cT.mpr ⟨by omega,by omega⟩;have l3:((List.range c.toNat).map fun i=>PV.int (0+(i:Nat))).length<16777216:=by rw[List.length_map,List.length_range];omega
 obtain⟨ps,n',g0,g1,g2,g3,g4⟩:=sv (te:=gL (F (k+1)) (L (k+1))) (cp:=[some (av A),some (cv cs),some (.ref 0)]) (m:=m) (fun i:Nat=>PV.int (0+(i:Nat))) MF (fun p=>wp p=true) 1 (by decide) 2000000 (List.range c.toNat) n h0 (by rw[List.length_range];omega) fun i hi n h0 h1=>by
  obtain⟨v,_,_,e⟩:=gw k cs hc n m h0 (by omega) []
  have cn:A.ns≠ []:=by
   rcases hn with q|q
   ·subst q;simp at hi
   ·exact q
  obtain⟨p,p1,p2⟩:=ow k A hA cn lj v;have cp:∀h,bj (F (k+1) .I_) [.int v,av A] h=.ok (MF p) h:=fun h=>aM h (by simp[ai,PV.pure,gr]) p2;have d0:aj [J4 n m] (.ref 0)=.ref 0:=rfl;exact⟨p,n+1,p1,by omega,by omega,by simp only[EY,gL,d0,e,cp]⟩
 rw[List.length_range]at g0 g3;refine⟨ps,n',⟨?_,by omega⟩,g2,by omega,?_⟩
 ·rw[wps,acf];exact⟨List.all_eq_true.mpr g1,decide_eq_true (by omega)⟩
 ·have r2:L (k+2) .B_ [cv cs,.ref 0,av A,.int c] [J4 n m]=match gq (F (k+1)) (L (k+1)) [some (cv cs),some (.ref 0),some (av A),some (.int c)] [J4 n m]with|.nx _ h1=>gk 1 .non h1|.rt v h1=>dX 1 v h1|_=>.bad:=rfl
  have cp:cJ [2,0,1] [some (cv cs),some (.ref 0),some (av A),some (.int c)]=[some (av A),some (cv cs),some (.ref 0)]:=rfl;rw[r2];simp only[EY,gq,bc,l3,cp,g4,Ab];exact uF (by rw[PV.pure];exact aK ps) (bL _ _)
theorem pN(k:Nat)(A:At)(xs:List (List Nat))(hl:A.ns.length+xs.length≤100000):F (k+1) .K6 [av A,nms xs]=.ok (av { A with ns:=A.ns++xs }):=by
 have r2:F (k+1) .K6 [av A,nms xs]=match jm (F k) [some (av A),some (nms xs),none] []with
   |.nx _ _=>.ok .non
   |.rt v h=>cr v h
   |_=>.bad:=rfl
 have an:=uV A.ns xs [PO.dct [(.inr kN,nms A.ns),(.inr kP,.lst (A.ps.map M4)),(.inr kH,G_ A.h),(.inr kM,J9 A.ms)]] hl;have dm:oz [av A] []=.ok (.ref 0) [.dct [(.inr kN,nms A.ns),(.inr kP,.lst (A.ps.map M4)),(.inr kH,G_ A.h),(.inr kM,J9 A.ms)]]:=rfl;rw[r2];have z4:(4<16777216)=True:=by decide
 have fz:XR (.ref 0) [.dct (lG [(.inr kN,nms A.ns),(.inr kP,.lst (A.ps.map M4)),(.inr kH,G_ A.h),(.inr kM,J9 A.ms)] (.inr kN) (nms (A.ns++xs)))]=.ok (av { A with ns:=A.ns++xs }) [.K3 (av { A with ns:=A.ns++xs })]:=by
  have e:lG [(.inr kN,nms A.ns),(.inr kP,.lst (A.ps.map M4)),(.inr kH,G_ A.h),(.inr kM,J9 A.ms)] (.inr kN) (nms (A.ns++xs))=[(.inr kN,nms (A.ns++xs)),(.inr kP,.lst (A.ps.map M4)),(.inr kH,G_ A.h),(.inr kM,J9 A.ms)]:=rfl;rw[e];have pp:eI [((Sum.inr kN:Int ⊕ List Nat),nms (A.ns++xs)),(.inr kP,.lst (A.ps.map M4)),(.inr kH,G_ A.h),(.inr kM,J9 A.ms)]=true:=by simp[eI,PV.pure,br,mw,oH,gG]
  show(match(if eI _=true then some (PV.dct _,[PO.K3 (PV.dct _)])else none)with|some (q,h2)=>Res.ok q h2|none=>.bad)=_;rw[if_pos pp];rfl
 simp only[EY,jm,dm,an,z4,fz];exact bD (gr _)
noncomputable def MJ:List Nd→G8
 |[]=>.nil
 |n::r=>.cons n (MJ r)
theorem gV:∀l:List Nd,f9 (MJ l)=l.map nd
 |[]=>by rw[MJ,f9];rfl
 |n::r=>by rw[MJ,f9,gV r];rfl
theorem jj:∀l:List Nd,K4 (MJ l)=Rh l
 |[]=>by rw[MJ,K4];rfl
 |n::r=>by rw[MJ,K4,jj r];unfold Rh;rw[List.map_cons,List.sum_cons]
theorem Rw.f9{kn:List (List Nat)}{d c t:Nat}:∀{l:List Nd},Rw kn d c t l→wS (MJ l)=true∧O4 kn (MJ l)=true∧dS (MJ l)≤d∧Qp 12 (MJ l)=true
 |[],_=>⟨rfl,rfl,Nat.zero_le _,rfl⟩
 |n::r,h=>by
  have e1:Rh (n::r)=Ma n+1+Rh r:=by unfold Rh;rw[List.map_cons,List.sum_cons]
  have e2:Rf (n::r)=U3 n+Rf r:=by unfold Rf;rw[List.map_cons,List.sum_cons]
  have hc:=h.c;have ht:=h.t;obtain⟨a,b,e,f⟩:=Rw.f9 (kn:=kn) (d:=d) (c:=c) (t:=t) (l:=r) ⟨fun z hz=>h.w z (List.mem_cons_of_mem _ hz),by omega,by omega⟩;obtain⟨w1,w2,w3,w4⟩:=h.w n List.mem_cons_self;rw[MJ,wS,O4,dS,Qp,w1,w2,w4,a,b,f];exact⟨rfl,rfl,Nat.max_le.mpr ⟨w3,e⟩,rfl⟩
noncomputable def gg:Nat→Nat
 |0=>3
 |d+1=>3 * (1+2 * gg d)
def gn:Nat→Nat
 |0=>1
 |d+1=>1+2 * gg d
noncomputable def cg:Nat→Nat
 |0=>19
 |d+1=>1+3 * (6+2 * cg d)
def cn:Nat→Nat
 |0=>6
 |d+1=>6+2 * cg d
theorem IA(d:Nat):gg d=3 * gn d:=by cases d<;>rfl
theorem ER(d:Nat):cg d=1+3 * cn d:=by cases d<;>rfl
structure NR(kn:List (List Nat))(D:Nat)(x:Nd):Prop where
 w:wN x=true
 u:Qd kn x=true
 d:dN x≤D
 c:Ma x+1≤gn D
 t:U3 x≤4
 l:Nm 12 x=true
theorem oP:∀d:Nat,1≤gn d
 |0=>acg _
 |d+1=>Nat.le_add_right _ _
def jZ(d:Nat):Prop:=∀(K:Nat)(cs:List Int)(A:At)(j:Nat)(n m:Int),3 * d+6≤K→cs.length≤63→TX j A→j+12 * d≤100→0≤n→n+cg d≤1900000→
 ∃l n',Rw (A.ps.map (·.n)) d (gg d) 12 l∧n≤n'∧n'≤n+cg d∧L K .z7 [cv cs,.ref 0,av A,.int d] [J4 n m]=.ok (.tup (l.map nd)) [J4 n' m]
theorem fA{d:Nat}(ok:jZ d)(K:Nat)(cs:List Int)(A:At)(j:Nat)(n m:Int)(hK:3 * d+6≤K)(hc:cs.length≤63)(hA:TX j A)(hj:j+12 * d≤100)(h0:0≤n)(h1:n+cg d≤1900000)(r:List PO):
  ∃l n',Rw (A.ps.map (·.n)) d (gg d) 12 l∧n≤n'∧n'≤n+cg d∧cP (L K .z7) [cv cs,.ref 0,av A,.int d] (J4 n m::r)=.ok (.tup (l.map nd)) (J4 n' m::r):=by
 obtain⟨l,n',a,b,c,e⟩:=ok K cs A j n m hK hc hA hj h0 h1;exact⟨l,n',a,b,c,dq (fn:=L K .z7) [cv cs] [av A,.int d] (by rw[ai,ji];rfl) (by simp[ai,gr,PV.pure]) rfl (bL _ _) e (by rw[PV.pure];exact fV l) (bL _ _)⟩
theorem Dp{l:List PV}(hl:fds 59 l)(h:List PO):Ow (.tup l) (.tup []) h=.ok (.bl (!l.isEmpty)) h:=by
 have ok:Oe h (.tup l)=true:=by unfold Oe O2;have:=hl.2.1;simp only[toD,PyData.canLay0,PyData.depth,hl.1,Bool.true_and,decide_eq_true_eq];omega
 unfold Ow;rw[if_pos ⟨ok,rfl⟩]
 cases l<;>rfl
theorem xC{l:List PV}(hl:fds 59 l)(h:List PO):G9 (.tup l) (.tup []) h=.ok (.bl l.isEmpty) h:=by
 have ok:Oe h (.tup l)=true:=by unfold Oe O2;have:=hl.2.1;simp only[toD,PyData.canLay0,PyData.depth,hl.1,Bool.true_and,decide_eq_true_eq];omega
 unfold G9;rw[if_pos ⟨ok,rfl⟩]
 cases l<;>rfl
theorem AW{l:List (List Nat)}(hs:Mu l=true)(h:List PO):Ow (nms l) (.tup []) h=.ok (.bl (!l.isEmpty)) h:=by unfold nms;rw[Dp (iG hs),List.isEmpty_map]
theorem Dn{l:List (List Nat)}(hs:Mu l=true)(h:List PO):G9 (nms l) (.tup []) h=.ok (.bl l.isEmpty) h:=by unfold nms;rw[xC (iG hs),List.isEmpty_map]
theorem TX.more{j:Nat}{A:At}(h:TX j A)(xs:List (List Nat))(hs:Mu xs=true)(hl:xs.length≤12):TX (j+12) { A with ns:=A.ns++xs }:=
 ⟨jL h.n hs,by show(A.ns++xs).length≤_;rw[List.length_append];have:=h.l;omega,h.pl,h.p,h.h,h.ml,h.m⟩
theorem ou(K:Nat){j:Nat}(cs:List Int)(hc:cs.length≤63)(A:At)(hA:TX j A)(lj:j≤1000)(c:Int)(c0:0≤c)(c4:c≤4)(hn:c=0∨A.ns≠ [])(n m:Int)(h0:0≤n)(h1:n≤1900000):
  ∃ps n',(wps ps=true∧ps.length≤12)∧n≤n'∧n'≤n+4∧cP (L (K+2) .B_) [cv cs,.ref 0,av A,.int c] [J4 n m]=.ok (.tup (bg ps)) [J4 n' m]:=by
 obtain⟨ps,n',a,b,c',e⟩:=ug K cs hc A hA lj c c0 c4 hn n m h0 h1;exact⟨ps,n',a,b,c',dq (fn:=L (K+2) .B_) [cv cs] [av A,.int c] (by rw[ai,ji];rfl) (by simp[ai,gr,PV.pure]) rfl (bL _ _) e (by rw[PV.pure];exact aK ps) (bL _ _)⟩
theorem BB{l:List Pe}(h:∀p∈l,sg p.n=true):fds 59 (l.map M4):=by
 induction l with
 |nil=>exact bK _
 |cons a r ih=>
  refine aB (bA (cE (d:=1) (aB (cI (h a List.mem_cons_self)) (aB (mG _ _) (aB ?_ (bK _))))) (by decide)) (ih fun p hp=>h p (List.mem_cons_of_mem _ hp))
  cases a.h with
  |none=>exact sf _
  |some i=>exact mG _ i
theorem vf(d:Nat)(ok:jZ d)(K:Nat)(cs:List Int)(A:At)(j:Nat)(n m more:Int)(hK:3 * d+6≤K)(hc:cs.length≤63)(hA:TX j A)(hj:j+12 * (d+1)≤100)(h0:0≤n)(h1:n+4+cg d≤1900000)(lp:A.ps.length≤1000):
  ∃x n',NR (A.ps.map (·.n)) (d+1) x∧n≤n'∧n'≤n+4+cg d∧L (K+1) .K7 [cv cs,.ref 0,av A,.int ((d+1:Nat):Int),.int more] [J4 n m]=.ok (nd x) [J4 n' m]:=by
 have r2:∀x,eM (F K) (L K) [some (cv cs),some (.ref 0),some (av A),some (.int ((d+1:Nat):Int)),some (.int more),none,none,none,none,none,none,none] [J4 n m]=x→L (K+1) .K7 [cv cs,.ref 0,av A,.int ((d+1:Nat):Int),.int more] [J4 n m]=match x with|.nx _ h1=>gk 1 .non h1|.rt v h1=>dX 1 v h1|_=>.bad:=fun x e=>by subst e;rfl
 have lq:(A.ps.map M4).length<16777216:=by rw[List.length_map];omega
 have cm:∀ ρ h,cJ [2] ρ=[some (av A)]→bG (fG (F K)) (fM (F K)) (cJ [2] ρ) (A.ps.map M4) h=.ok ((A.ps.filter fun p=>decide ((p.m:Int)=0)||!A.ns.isEmpty).map M4) h:=fun ρ h hc=>by
  rw[hc];refine jC M4 (fun p=>decide ((p.m:Int)=0)||!A.ns.isEmpty) M4 A.ps (fun p hp=>?_) fun p hp=>?_
  ·have i1:b_ (M4 p) (.int 1) h=.ok (.int p.m) h:=rfl;have dp:aj h (M4 p)=M4 p:=rfl;have nn:=AW hA.n h
   cases e:decide ((p.m:Int)=0)<;>simp only[EY,fG,dp,i1,e,nn]
  ·have dp:aj h (M4 p)=M4 p:=rfl;simp only[EY,fM,dp]
 have hf:∀p∈A.ps.filter (fun p=>decide ((p.m:Int)=0)||!A.ns.isEmpty),p∈A.ps∧((p.m:Int)=0∨A.ns≠ []):=fun p hp=>by
  obtain⟨a,b⟩:=List.mem_filter.mp hp;refine⟨a,?_⟩;rw[Bool.or_eq_true,decide_eq_true_eq]at b;rcases b with b|b
  ·exact .inl b
  ·exact .inr (by intro z;rw[z]at b;cases b)
 have en:∀h,G9 (.lst ((A.ps.filter fun p=>decide ((p.m:Int)=0)||!A.ns.isEmpty).map M4)) (.lst []) h=.ok (.bl ((A.ps.filter fun p=>decide ((p.m:Int)=0)||!A.ns.isEmpty).map M4).isEmpty) h:=fun h=>su (BB fun p hp=>(hA.p p (hf p hp).1).1) h;generalize A.ps.filter (fun p=>decide ((p.m:Int)=0)||!A.ns.isEmpty)=fl at cm hf en;have UL:∀(x:Option PV) h,bG (fG (F K)) (fM (F K)) (cJ [2] [some (cv cs),some (.ref 0),some (av A),some (.int ((d+1:Nat):Int)),some (.int more),none,none,none,none,none,none,none]) (A.ps.map M4) h=.ok (fl.map M4) h:=fun _ h=>cm _ h rfl;have d0:∀(n:Int),aj [J4 n m] (.ref 0)=.ref 0:=fun n=>rfl;have X6:=ER d
 cases fl with
 |nil=>simp only[List.map_nil,List.isEmpty_nil]at UL en;refine⟨.text [110,111,110,101],n,⟨by rw[wN];rfl,rfl,Nat.zero_le _,oP _,by show 4≤4;omega,rfl⟩,by omega,by omega,?_⟩;rw[r2 _ rfl];simp only[EY,eM,lq,UL none,en];rw[nd];exact uF rfl (bL _ _)
 |cons p0 r0=>
  have Rr:(0:Int)<((p0::r0).length:Nat):=by rw[List.length_cons];omega
  obtain⟨q0,q1⟩:=ba more Rr;have hi:(more % ((p0::r0).length:Nat)).toNat<(p0::r0).length:=by omega
  obtain⟨p,hp,ip⟩:∃p∈p0::r0,∀h,b_ (.lst ((p0::r0).map M4)) (.int (more % ((p0::r0).length:Nat))) h=.ok (M4 p) h:=by refine⟨(p0::r0)[(more % ((p0::r0).length:Nat)).toNat],List.getElem_mem hi,fun h=>?_⟩;rw[uy,dJ (v:=M4 ((p0::r0)[(more % ((p0::r0).length:Nat)).toNat])) q0 (by rw[List.getElem?_map,List.getElem?_eq_getElem hi];rfl)];rfl
  obtain⟨hm,hz⟩:=hf p hp;obtain⟨p1,p2,p3⟩:=hA.p p hm;have hl:∀h,bF [.lst ((p0::r0).map M4)] h=.ok (.int ((p0::r0).length:Nat)) h:=fun h=>by rw[Be,List.length_map]
  have pz:decide ((0:Int)<((p0::r0).length:Nat))=true:=decide_eq_true Rr;have e0:((p0::r0).map M4).isEmpty=false:=rfl;rw[e0]at en;generalize(p0::r0).map M4=fv at UL en ip hl;generalize(((p0::r0).length:Nat):Int)=fn at ip hl pz;obtain⟨K',rfl⟩:∃K',K=K'+2:=⟨K - 2,by omega⟩
  obtain⟨ps,n1,⟨w1,w1l⟩,w2,w3,w4⟩:=ou K' cs hc A hA (by omega) p.m (by omega) (by omega) hz n m h0 (by omega);have kn:(A.ps.map (·.n)).contains p.n=true:=by rw[List.contains_iff_mem];exact List.mem_map.mpr ⟨p,hm,rfl⟩
  have dp:∀h,aj h (PV.tup (bg ps))=.tup (bg ps):=fun _=>rfl
  cases hh:p.h with
  |none=>refine⟨.use p.n ps,n1,⟨by rw[wN,p1,w1];rfl,kn,Nat.zero_le _,oP _,Nat.zero_le _,decide_eq_true w1l⟩,w2,by omega,?_⟩;rw[r2 _ rfl];simp only[EY,eM,lq,UL none,en,hl,pz,ip];simp only[EY,M4,hh,G_,d0,w4,dp];rw[nd];exact uF (by simp[PV.pure,ai,aK]) (bL _ _)
  |some i=>
   let xs:=cut A.ms (some (more / 8 % 9)) (some (more / 8 % 9+i));have sx:Mu xs=true:=qS hA.m fun x hx=>jW hx;have lx:xs.length≤12:=by have:=lV A.ms (some (more / 8 % 9)) (some (more / 8 % 9+i));rw[hA.ml]at this;exact this
   obtain⟨l,n2,g1,g2,g3,g4⟩:=fA ok (K'+2) cs { A with ns:=A.ns++xs } (j+12) n1 m hK hc (hA.more xs sx lx) (by omega) (by omega) (by omega) [];obtain⟨e1,e2,e3,e4⟩:=g1.f9;have sl:∀h,cQ (J9 A.ms) (some (more / 8 % 9)) (some (more / 8 % 9+i)) h=.ok (J9 xs) h:=fun h=>by unfold J9;rw[Hw,sB]
   have tp:∀h,fx [J9 xs] h=.ok (nms xs) h:=fun h=>rfl;have wi:∀h,bj (F (K'+2) .K6) [av A,nms xs] h=.ok (av { A with ns:=A.ns++xs }) h:=fun h=>aM h (by simp[ai,gr,br]) (pN (K'+1) A xs (by have:=hA.l;omega));have dd:((d+1:Nat):Int) - 1=(d:Int):=by omega
   refine⟨.j4 p.n ps xs (MJ l),n2,⟨by rw[wN,p1,w1,sx,decide_eq_true (show xs.length<60 by omega),e1];rfl,by rw[Qd,kn,e2];rfl,by rw[dN];omega,?_,Nat.zero_le _,by rw[Nm,decide_eq_true w1l,decide_eq_true lx,e4];rfl⟩,by omega,by omega,?_⟩
   ·rw[Ma,jj];have:=g1.c;show Rh l+1≤1+2 * gg d;omega
   ·rw[r2 _ rfl];simp only[EY,eM,lq,UL none,en,hl,pz,ip];simp only[EY,M4,hh,G_,d0,w4,dp,sl,tp,wi,dd,g4];rw[nd,gV];exact uF (by simp[PV.pure,ai,aK,br,fV]) (bL _ _)
theorem vM(d:Nat)(ok:∀e,e+1=d→jZ e)(K:Nat)(cs:List Int)(A:At)(j:Nat)(n m:Int)(hK:3 * d+4≤K)(hc:cs.length≤63)(hA:TX j A)(hj:j+12 * d≤100)(h0:0≤n)(h1:n+cn d≤1900000):
  ∃x n',NR (A.ps.map (·.n)) d x∧n≤n'∧n'≤n+cn d∧L (K+1) .K8 [cv cs,.ref 0,av A,.int d] [J4 n m]=.ok (nd x) [J4 n' m]:=by
 obtain⟨K',rfl⟩:∃K',K=K'+2:=⟨K - 2,by omega⟩
 have cn6:6≤cn d:=by cases d with
  |zero=>exact acg _
  |succ d=>exact Nat.le_add_right _ _
 obtain⟨v,v0,v1,ce⟩:=gw (K'+1) cs hc n m h0 (by omega) [];have d0:∀(n:Int),aj [J4 n m] (.ref 0)=.ref 0:=fun n=>rfl;have i0:∀(n:Int),b_ (.ref 0) (.int 0) [J4 n m]=.ok (.int n) [J4 n m]:=fun n=>rfl;have i1:∀(n:Int),b_ (.ref 0) (.int 1) [J4 n m]=.ok (.int m) [J4 n m]:=fun n=>rfl
 have s4:aO 4 (c2 dj (aZ ((L (K'+2)) .K1) aaV) aae) [some (cv cs),some (.ref 0),some (av A),some (.int d),none,none,none,none,none,none,none] [J4 n m]=.nx [some (cv cs),some (.ref 0),some (av A),some (.int d),some (.int (v / 3)),none,none,none,none,none,none] [J4 (n+1) m]:=by simp only[EY,d0,ce]
 have s5:aO 5 (c2 bx (ag 4) abx) [some (cv cs),some (.ref 0),some (av A),some (.int d),some (.int (v / 3)),none,none,none,none,none,none] [J4 (n+1) m]=.nx [some (cv cs),some (.ref 0),some (av A),some (.int d),some (.int (v / 3)),some (.int (v / 3 % 9)),none,none,none,none,none] [J4 (n+1) m]:=by simp only[EY,if_true]
 have s6:aO 6 (c2 dj (ag 4) abx) [some (cv cs),some (.ref 0),some (av A),some (.int d),some (.int (v / 3)),some (.int (v / 3 % 9)),none,none,none,none,none] [J4 (n+1) m]=.nx [some (cv cs),some (.ref 0),some (av A),some (.int d),some (.int (v / 3)),some (.int (v / 3 % 9)),some (.int (v / 3 / 9)),none,none,none,none] [J4 (n+1) m]:=by simp only[EY,if_true]
 obtain⟨κ,k0,k1,k2,s7⟩:∃ κ:Int,0≤κ∧κ≤8∧(d=0→κ<3)∧J5 abq (aO 5 abh) bo [some (cv cs),some (.ref 0),some (av A),some (.int d),some (.int (v / 3)),some (.int (v / 3 % 9)),some (.int (v / 3 / 9)),none,none,none,none] [J4 (n+1) m]=.nx [some (cv cs),some (.ref 0),some (av A),some (.int d),some (.int (v / 3)),some (.int κ),some (.int (v / 3 / 9)),none,none,none,none] [J4 (n+1) m]:=by
  have a1:=ba (v / 3) (by decide:(0:Int)<9);have a2:=ba (v / 3 % 9) (by decide:(0:Int)<3)
  cases c1:decide (n+1>m)with
  |true=>exact⟨v / 3 % 9 % 3,by omega,by omega,fun _=>by omega,by simp only[EY,d0,i0,i1,c1]⟩
  |false=>
   cases c2:decide ((d:Int)<1)with
   |true=>exact⟨v / 3 % 9 % 3,by omega,by omega,fun _=>by omega,by simp only[EY,d0,i0,i1,c1,c2]⟩
   |false=>have:=of_decide_eq_false c2;exact⟨v / 3 % 9,by omega,by omega,fun z=>by omega,by simp only[EY,d0,i0,i1,c1,c2]⟩
 have fin:∀(x:Nd)(n':Int),dX 1 (nd x) [J4 n' m]=.ok (nd x) [J4 n' m]:=fun x n'=>uF (bz x) (bL _ _);have r2:∀T,fX (F (K'+2)) (L (K'+2)) [some (cv cs),some (.ref 0),some (av A),some (.int d),none,none,none,none,none,none,none] [J4 n m]=T→L (K'+2+1) .K8 [cv cs,.ref 0,av A,.int d] [J4 n m]=match T with|.nx _ h1=>gk 1 .non h1|.rt v h1=>dX 1 v h1|_=>.bad:=fun T e=>by subst e;rfl
 suffices S:∃x n',NR (A.ps.map (·.n)) d x∧n≤n'∧n'≤n+cn d∧fX (F (K'+2)) (L (K'+2)) [some (cv cs),some (.ref 0),some (av A),some (.int d),none,none,none,none,none,none,none] [J4 n m]=.rt (nd x) [J4 n' m] by obtain⟨x,n',a,b,c,e⟩:=S;exact⟨x,n',a,b,c,by rw[r2 _ e];exact fin x n'⟩
 unfold fX;rw[cj,s4];dsimp only;rw[cj,s5];dsimp only;rw[cj,s6];dsimp only;rw[cj,s7];dsimp only;have nn:=AW hA.n;have ne:=Dn hA.n
 have Yo:∀(l:List (List Nat))(i:Int),Mu l=true→0≤i→i<l.length→∃s∈l,sg s=true∧Np (l.map PV.str) i=some (.str s):=fun l i hs h0 h1=>by
  have hi:i.toNat<l.length:=by omega
  exact⟨l[i.toNat],List.getElem_mem hi,List.all_eq_true.mp hs _ (List.getElem_mem hi),dJ h0 (by rw[List.getElem?_map,List.getElem?_eq_getElem hi];rfl)⟩
 have t6:=ba (v / 3 / 9) (by decide:(0:Int)<6);obtain⟨s,sm,_,st⟩:=Yo [[97],[123],[10],[60,98,62],[125,125],[32,126]] (v / 3 / 9 % 6) (by decide) t6.1 t6.2;simp only[List.map_cons,List.map_nil]at st
 have sl:sg s=true∧s.length≤4:=by
  have:∀x∈([[97],[123],[10],[60,98,62],[125,125],[32,126]]:List (List Nat)),sg x=true∧x.length≤4:=by decide
  exact this s sm
 have txt:NR (A.ps.map (·.n)) d (.text s):=⟨by rw[wN];exact sl.1,rfl,Nat.zero_le _,oP _,sl.2,rfl⟩
 have Xu:nd (.text s)=.tup [.str tT,.str s]:=by rw[nd]
 by_cases c1:κ>5∧κ<8
 ·have b1:decide (κ>5)=true:=decide_eq_true c1.1;have b2:decide (κ<8)=true:=decide_eq_true c1.2;obtain⟨e,rfl⟩:∃e,d=e+1:=⟨d - 1,by have:=k2;omega⟩
  have ec:cn (e+1)=6+2 * cg e:=rfl;obtain⟨x,n',a,b,c,u⟩:=vf e (ok e rfl) (K'+1) cs A j (n+1) m (v / 3 / 9) (by omega) hc hA (by omega) (by omega) (by omega) hA.pl;have cu:=dq (fn:=L (K'+1+1) .K7) [cv cs] [av A,.int ((e+1:Nat):Int),.int (v / 3 / 9)] (h:=[J4 (n+1) m]) (i:=0) (by rw[ai,ji];rfl) (by simp[ai,gr,PV.pure]) rfl (bL _ _) u (bz x) (bL _ _);simp only[List.cons_append,List.nil_append,List.set_cons_zero]at cu;exact⟨x,n',a,by omega,by omega,by simp only[EY,b1,b2,d0,cu]⟩
 by_cases c8:κ=8
 ·have b1:decide (κ>5)=true:=decide_eq_true (by omega);have b2:decide (κ<8)=false:=decide_eq_false (by omega);have b8:decide (κ=8)=true:=decide_eq_true c8;have b0:decide (κ=0)=false:=decide_eq_false (by omega)
  cases hh:A.h with
  |none=>refine⟨.text s,n+1,txt,by omega,by omega,?_⟩;simp only[EY,b1,b2,b8,b0,hh,G_,st,Xu]
  |some i=>
   have ho:=hA.h;rw[hh]at ho
   by_cases ci:i=0∨A.ns≠ []
   ·obtain⟨ps,n',⟨a,al⟩,b,c,e⟩:=ou K' cs hc A hA (by omega) i ho.1 (by have:=ho.2;omega) ci (n+1) m (by omega) (by omega);refine⟨.body ps,n',⟨by rw[wN];exact a,rfl,Nat.zero_le _,oP _,Nat.zero_le _,decide_eq_true al⟩,by omega,by omega,?_⟩;have nb:nd (.body ps)=.tup [.str tB,.tup (bg ps)]:=by rw[nd]
    have hs:(decide (i=0)||!A.ns.isEmpty)=true:=by
     rcases ci with z|z
     ·simp[z]
     ·rw[show A.ns.isEmpty=false by cases h:A.ns<;>simp_all];simp
    cases z0:decide (i=0)with
    |true=>simp only[EY,b1,b2,b8,hh,G_,z0,d0,e,nb]
    |false=>rw[z0,Bool.false_or]at hs;simp only[EY,b1,b2,b8,hh,G_,z0,nn,hs,d0,e,nb]
   ·have hz0:decide (i=0)=false:=decide_eq_false fun z=>ci (.inl z)
    have hs:(!A.ns.isEmpty)=false:=by
     cases h:A.ns with
     |nil=>rfl
     |cons a r=>exact(ci (.inr (by rw[h];simp))).elim
    refine⟨.text s,n+1,txt,by omega,by omega,?_⟩;simp only[EY,b1,b2,b8,b0,hh,G_,hz0,nn,hs,st,Xu]
 have b8:decide (κ=8)=false:=decide_eq_false c8;have b5:decide (κ>5)=false:=decide_eq_false fun z=>c1 ⟨z,by omega⟩
 by_cases c0:κ=0
 ·have b0:decide (κ=0)=true:=decide_eq_true c0;refine⟨.text s,n+1,txt,by omega,by omega,?_⟩;simp only[EY,b5,b8,b0,st,Xu]
 have b0:decide (κ=0)=false:=decide_eq_false c0
 by_cases cs0:A.ns= []
 ·have hs:A.ns.isEmpty=true:=by rw[cs0];rfl
  refine⟨.text s,n+1,txt,by omega,by omega,?_⟩;simp only[EY,b5,b8,b0,ne,hs,st,Xu]
 have hs:A.ns.isEmpty=false:=by cases h:A.ns<;>simp_all
 obtain⟨v',_,_,Xa⟩:=gw (K'+1) cs hc (n+1) m (by omega) (by omega) [];obtain⟨p,Yk,pe⟩:=ow (K'+1) A hA cs0 (by omega) v';have cp:∀h,bj (F (K'+2) .I_) [.int v',av A] h=.ok (MF p) h:=fun h=>aM h (by simp[ai,PV.pure,gr]) pe
 by_cases c3:κ<3
 ·have b3:decide (κ<3)=true:=decide_eq_true c3;have t5:=ba (v / 3 / 9) (by decide:(0:Int)<5);obtain⟨w,_,wm,wt⟩:=Yo [[119,111,114,100],[110,117,109,98,101,114],[113,117,111,116,101,100],[112,108,97,105,110],[108,105,110,101]] (v / 3 / 9 % 5) (by decide) t5.1 t5.2;simp only[List.map_cons,List.map_nil]at wt;refine⟨.place p w,n+1+1,⟨by rw[wN,Yk,wm];rfl,rfl,Nat.zero_le _,oP _,Nat.zero_le _,rfl⟩,by omega,by omega,?_⟩;have np:nd (.place p w)=.tup [.str tP,MF p,.str w]:=by rw[nd]
  simp only[EY,b5,b8,b0,ne,hs,d0,Xa,cp,b3,wt,np]
 have b3:decide (κ<3)=false:=decide_eq_false c3;obtain⟨e,rfl⟩:∃e,d=e+1:=⟨d - 1,by have:=k2;omega⟩
 have ec:cn (e+1)=6+2 * cg e:=rfl;have gc:gn (e+1)=1+2 * gg e:=rfl;have dd:((e+1:Nat):Int) - 1=(e:Int):=by omega
 by_cases c5:κ<5
 ·have ZM:decide (κ<5)=true:=decide_eq_true c5;have Sg:=ba (v / 3 / 9) (by decide:(0:Int)<12);obtain⟨x,xs,xi,_⟩:=gH hA.ml hA.m _ Sg.1 Sg.2;have t3:=ba (v / 3 / 9 / 12) (by decide:(0:Int)<3);obtain⟨w,_,wm,wt⟩:=Yo [[],[44,32],[10]] (v / 3 / 9 / 12 % 3) (by decide) t3.1 t3.2;simp only[List.map_cons,List.map_nil]at wt;obtain⟨l,n',g1,g2,g3,g4⟩:=fA (ok e rfl) (K'+2) cs { A with ns:=A.ns++ [x] } (j+12) (n+1+1) m (by omega) hc (hA.more [x] (by simp[Mu,xs]) (by simp)) (by omega) (by omega) (by omega) [];obtain⟨e1,e2,e3,e4⟩:=g1.f9;have wi:∀h,bj (F (K'+2) .K6) [av A,.tup [.str x]] h=.ok (av { A with ns:=A.ns++ [x] }) h:=fun h=>aM h (by simp[ai,gr,PV.pure]) (pN (K'+1) A [x] (by have:=hA.l;simp;omega));refine⟨.loop x p (MJ l) w,n',⟨by rw[wN,xs,Yk,e1,wm];rfl,by rw[Qd];exact e2,by rw[dN];omega,by rw[Ma,jj,gc];have:=g1.c;omega,Nat.zero_le _,by rw[Nm];exact e4⟩,by omega,by omega,?_⟩;have np:nd (.loop x p (MJ l) w)=.tup [.str tL,.str x,MF p,.tup (l.map nd),.str w]:=by rw[nd,gV]
  simp only[EY,b5,b8,b0,ne,hs,d0,Xa,cp,b3,ZM,xi,wi,dd,g4,wt,np]
 have ZM:decide (κ<5)=false:=decide_eq_false c5;obtain⟨y,n2,g1,g2,g3,g4⟩:=fA (ok e rfl) (K'+2) cs A j (n+1+1) m (by omega) hc hA (by omega) (by omega) (by omega) [];obtain⟨z,n3,f1,f2,f3,f4⟩:=fA (ok e rfl) (K'+2) cs A j n2 m (by omega) hc hA (by omega) (by omega) (by omega) [];obtain⟨e1,e2,e3,e4⟩:=g1.f9;obtain⟨u1,u2,u3,u4⟩:=f1.f9;refine⟨.choice p (MJ y) (MJ z),n3,⟨by rw[wN,Yk,e1,u1];rfl,by rw[Qd,e2,u2];rfl,by rw[dN];omega,by rw[Ma,jj,jj,gc];have:=g1.c;have:=f1.c;omega,Nat.zero_le _,by rw[Nm,e4,u4];rfl⟩,by omega,by omega,?_⟩;have np:nd (.choice p (MJ y) (MJ z))=.tup [.str tC,MF p,.tup (y.map nd),.tup (z.map nd)]:=by rw[nd,gV,gV]
 simp only[EY,b5,b8,b0,ne,hs,d0,Xa,cp,b3,ZM,dd,g4,f4,np]
theorem Rw.of{kn:List (List Nat)}{d:Nat}:∀{l:List Nd},(∀x∈l,NR kn d x)→Rw kn d (gn d * l.length) (4 * l.length) l
 |[],_=>⟨fun x hx=>(by cases hx),by simp[Rh],by simp[Rf]⟩
 |n::r,h=>by
  have ih:=Rw.of fun x hx=>h x (List.mem_cons_of_mem _ hx);have hn:=h n List.mem_cons_self;have e1:Rh (n::r)=Ma n+1+Rh r:=by unfold Rh;rw[List.map_cons,List.sum_cons]
  have e2:Rf (n::r)=U3 n+Rf r:=by unfold Rf;rw[List.map_cons,List.sum_cons]
  refine⟨fun x hx=>?_,?_,?_⟩
  ·rcases List.mem_cons.mp hx with q|q
   ·subst q;exact⟨hn.w,hn.u,hn.d,hn.l⟩
   ·exact ih.w x q
  ·rw[e1,List.length_cons,Nat.mul_add];have:=ih.c;have:=hn.c;omega
  ·rw[e2,List.length_cons];have:=ih.t;have:=hn.t;omega
theorem oO(d:Nat)(hd:d≤4)(ok:∀e,e+1=d→jZ e):jZ d:=fun K cs A j n m hK hc hA hj h0 h1=>by
 obtain⟨K',rfl⟩:∃K',K=K'+2:=⟨K - 2,by omega⟩
 have c1:=ER d;have g1:=IA d;obtain⟨v,v0,v1,ce⟩:=gw K' cs hc n m h0 (by omega) [];have t4:=ba (v / 5) (by decide:(0:Int)<4);generalize hr:v / 5 % 4=r at t4;have bc:QM 4611686018427387904 r=true:=cT.mpr ⟨by omega,by omega⟩;have l3:((List.range r.toNat).map fun i=>PV.int (0+(i:Nat))).length<16777216:=by rw[List.length_map,List.length_range];omega
 have lr:(List.range r.toNat).length≤3:=by rw[List.length_range];omega
 have d0:∀(n:Int),aj [J4 n m] (.ref 0)=.ref 0:=fun n=>rfl;have cnn:(0:Int)≤cn d:=by omega
 have cl:(cn d:Int) * ((List.range r.toNat).length:Nat)≤cn d * 3:=Int.mul_le_mul_of_nonneg_left (by omega) cnn
 obtain⟨ys,n',y0,y1,y2,y3,y4⟩:=sv (te:=jG (F (K'+1)) (L (K'+1))) (cp:=[some (cv cs),some (.ref 0),some (av A),some (.int d)]) (m:=m) (fun i:Nat=>PV.int (0+(i:Nat))) nd (NR (A.ps.map (·.n)) d) (cn d) cnn 1900000 (List.range r.toNat) (n+1) (by omega) (by omega) fun i _ n h0 h1=>by obtain⟨x,n',a,b,c,e⟩:=vM d ok K' cs A j n m (by omega) hc hA hj h0 h1;have cu:=dq (fn:=L (K'+1) .K8) [cv cs] [av A,.int d] (h:=[J4 n m]) (i:=0) (by rw[ai,ji];rfl) (by simp[ai,gr,PV.pure]) rfl (bL _ _) e (bz x) (bL _ _);simp only[List.cons_append,List.nil_append,List.set_cons_zero]at cu;exact⟨x,n',a,b,c,by simp only[EY,jG,d0,cu]⟩
 have R:=Rw.of y1;have hy:ys.length≤3:=by omega
 have hg:gn d * ys.length≤gn d * 3:=Nat.mul_le_mul_left _ hy;have R':Rw (A.ps.map (·.n)) d (gg d) 12 ys:=R.mono (acg _) (by omega) (by omega);obtain⟨l,o1,o2⟩:=vJ (A.ps.map (·.n)) d (gg d) 12 K' (by omega) ((by decide:∀d≤4,gg d≤1000000) d hd) (by decide) false ys R';refine⟨l,n',o1,by omega,by omega,?_⟩;have co:∀h,bj (F (K'+1) .Nk) [.lst (ys.map nd)] h=.ok (.tup (l.map nd)) h:=fun h=>aM h (by simp[ai,PV.pure,fV]) o2;have r2:L (K'+2) .z7 [cv cs,.ref 0,av A,.int d] [J4 n m]=match jY (F (K'+1)) (L (K'+1)) [some (cv cs),some (.ref 0),some (av A),some (.int d)] [J4 n m]with|.nx _ h1=>gk 1 .non h1|.rt v h1=>dX 1 v h1|_=>.bad:=rfl
 have cp:cJ [0,1,2,3] [some (cv cs),some (.ref 0),some (av A),some (.int d)]=[some (cv cs),some (.ref 0),some (av A),some (.int d)]:=rfl;rw[r2];simp only[EY,jY,d0,ce,hr,bc,l3,cp,y4,co];exact uF (by rw[PV.pure];exact fV l) (bL _ _)
theorem uC:∀d,d≤4→jZ d:=by
 intro d
 induction d with
 |zero=>exact fun h=>oO 0 h fun e h=>by omega
 |succ d ih=>exact fun h=>oO (d+1) h fun e q=>by cases q;exact ih (by omega)
mutual
theorem zq{a b:List (List Nat)}(h:∀x∈a,x∈b):∀n:Nd,Qd a n=true→Qd b n=true
 |.loop _ _ c _,e=>by rw[Qd]at e ⊢;exact dG h c e
 |.choice _ y z,e=>by rw[Qd,acf]at e ⊢;exact⟨dG h y e.1,dG h z e.2⟩
 |.use x _,e=>by rw[Qd,List.contains_iff_mem]at e ⊢;exact h x e
 |.j4 x _ _ c,e=>by rw[Qd,acf,List.contains_iff_mem]at e ⊢;exact⟨h x e.1,dG h c e.2⟩
 |.text _,_=>rfl
 |.place _ _,_=>rfl
 |.body _,_=>rfl
theorem dG{a b:List (List Nat)}(h:∀x∈a,x∈b):∀c:G8,O4 a c=true→O4 b c=true
 |.nil,_=>rfl
 |.cons n r,e=>by rw[O4,acf]at e ⊢;exact⟨zq h n e.1,dG h r e.2⟩
end
theorem qM(g:Nd→Nat)(f:Nd→Bool):∀l:List Nd,((l.filter f).map g).sum≤(l.map g).sum
 |[]=>acg _
 |a::r=>by
  have:=qM g f r;rw[List.filter_cons,List.map_cons,List.sum_cons]
  split
  ·rw[List.map_cons,List.sum_cons];omega
  ·omega
theorem Rw.filter{kn:List (List Nat)}{d c t:Nat}{l:List Nd}(h:Rw kn d c t l)(f:Nd→Bool):Rw kn d c t (l.filter f):=
 ⟨fun n hn=>h.w n (List.mem_filter.mp hn).1,Nat.le_trans (qM _ f l) h.c,Nat.le_trans (qM _ f l) h.t⟩
theorem GE(K:Nat)(hK:42≤K)(B:List Pc)(nm:List Nat)(ns:List (List Nat))(mm:Option Int)(l:List Nd)(lB:B.length≤100)(hB:∀q∈B,O4 (B.map (·.n)) q.b=true∧K4 q.b≤1000000){d c t:Nat}(hl:Rw (B.map (·.n)) d c t l)(hd:d≤20)(hc:c≤1000000)(ht:t≤1000):
  ∃l',Rw (B.map (·.n)) d c t l'∧L (K+1) .Oc [.ref 0,pc ⟨nm,ns,mm,MJ l⟩] [.lst (B.map pc)]=.ok (pc ⟨nm,ns,mm,MJ l'⟩) [.lst (B.map pc)]:=by
 have mo:∀x∈B.map (·.n),x∈(B++ [(⟨nm,ns,mm,MJ l⟩:Pc)]).map (·.n):=fun x hx=>by rw[List.map_append];exact List.mem_append_left _ hx
 obtain⟨e1,e2,e3,_⟩:=hl.f9;have ct:=jj l;have S8:=hl.c
 obtain⟨left,g1,g2⟩:=xH false (B++ [⟨nm,ns,mm,MJ l⟩]) (by simp;omega) (fun q hq=>by
  rcases List.mem_append.mp hq with h|h
  ·exact⟨dG mo _ (hB q h).1,(hB q h).2⟩
  ·cases List.mem_singleton.mp h;exact⟨dG mo _ e2,by show K4 (MJ l)≤_;omega⟩) 40 (by decide) (MJ l) .nil B.length 500 K (dG mo _ e2) (by omega) rfl (by decide) (by omega)
 have g3:L K .G4 ([Qx false (B++ [(⟨nm,ns,mm,MJ l⟩:Pc)]),.tup (f9 (MJ l)),.int B.length,.non,.int 1]++.ref 0:: []) [M6 500]=.ok .non [M6 left]:=g2;have cl:=dq (fn:=L K .G4) [Qx false (B++ [(⟨nm,ns,mm,MJ l⟩:Pc)]),.tup (f9 (MJ l)),.int B.length,.non,.int 1] [] (h:=[.lst (B.map pc),M6 500]) (i:=1) (by simp[ai,uP,PV.pure,aY]) rfl rfl (iD _) g3 rfl (iD _);simp only[List.cons_append,List.nil_append]at cl;have X5:cP (L K .G4) [.lst ((B++ [(⟨nm,ns,mm,MJ l⟩:Pc)]).map pc),.tup (f9 (MJ l)),.int B.length,.non,.int 1,.ref 1] [.lst (B.map pc),M6 500]=.ok .non [.lst (B.map pc),M6 left]:=cl;have d0:∀(a:List PV) r,aj (.lst a::r) (.ref 0)=.ref 0:=fun _ _=>rfl;have d1:∀(a:PO)(i:Int),aj [a,M6 i] (.ref 1)=.ref 1:=fun _ _=>rfl;have i1:∀(a:PO)(i:Int),b_ (.ref 1) (.int 0) [a,M6 i]=.ok (.int i) [a,M6 i]:=fun _ _=>rfl;have ad:=Cb (h:=[.lst (B.map pc),M6 500]) (i:=0) rfl [pc ⟨nm,ns,mm,MJ l⟩] (by rw[List.length_map];simp;omega);have ad':aq (.ref 0) (.lst [pc ⟨nm,ns,mm,MJ l⟩]) [.lst (B.map pc),M6 500]=.ok (.lst ((B++ [(⟨nm,ns,mm,MJ l⟩:Pc)]).map pc)) [.lst (B.map pc),M6 500]:=by rw[ad,List.map_append];rfl
 have ln:bF [.ref 0] [.lst (B.map pc),M6 500]=.ok (.int B.length) [.lst (B.map pc),M6 500]:=by show Res.ok (PV.int (B.map pc).length) _=_;rw[List.length_map]
 have mk:eZ [.int 500] [.lst (B.map pc)]=.ok (.ref 1) [.lst (B.map pc),M6 500]:=rfl;have r2:∀T,lY (F K) (L K) [some (.ref 0),some (pc ⟨nm,ns,mm,MJ l⟩),none] [.lst (B.map pc)]=T→L (K+1) .Oc [.ref 0,pc ⟨nm,ns,mm,MJ l⟩] [.lst (B.map pc)]=match T with|.nx _ h1=>gk 1 .non h1|.rt v h1=>dX 1 v h1|_=>.bad:=fun T e=>by subst e;rfl
 have fin:∀(q:Pc)(a:PO),dX 1 (pc q) [.lst (B.map pc),a]=.ok (pc q) [.lst (B.map pc)]:=fun q a=>by unfold dX;rw[iE _ (gT q)];dsimp only;unfold gk;simp[bN,PO.pure,iC]
 cases c0:decide (left≥0)with
 |true=>refine⟨l,hl,?_⟩;rw[r2 _ rfl];simp only[EY,lY,mk,d0,d1,ad',ln,X5,i1,c0];exact fin _ _
 |false=>
  have fw:∀(ρ:Ev) h,bG (me (F K)) (mH (F K)) (cJ [] ρ) (f9 (MJ l)) h=.ok ((l.filter fun n=>decide (kT n∈ [tT,tP,tB])).map nd) h:=fun ρ h=>by
   rw[gV];refine jC nd _ nd l (fun n hn=>?_) fun n hn=>?_
   ·have it:=Iw (x:=kT n) (ls:=[tT,tP,tB]) (gA (EE n)) (by decide) h;simp only[List.map_cons,List.map_nil]at it;simp only[EY,me,it]
   ·simp only[EY,mH]
  have ll:(f9 (MJ l)).length<16777216:=by have:=jQ (MJ l);omega
  obtain⟨l',o1,o2⟩:=vJ (B.map (·.n)) d c t (K - 1) hd hc ht false _ (hl.filter fun n=>decide (kT n∈ [tT,tP,tB]));have co:∀h,bj (F K .Nk) [.lst ((l.filter fun n=>decide (kT n∈ [tT,tP,tB])).map nd)] h=.ok (.tup (l'.map nd)) h:=fun h=>aM h (by simp[ai,PV.pure,fV]) (by rw[show K=K - 1+1 by omega];exact o2)
  have sl:∀h,cQ (pc ⟨nm,ns,mm,MJ l⟩) none (some 4) h=.ok (.tup [.str tI,.str nm,nms ns,G_ mm]) h:=fun h=>by unfold pc;exact eF _ 4 h
  have aa:∀h,aq (.tup [.str tI,.str nm,nms ns,G_ mm]) (.tup [.tup (l'.map nd)]) h=.ok (pc ⟨nm,ns,mm,MJ l'⟩) h:=fun h=>by rw[dh _ _ h (by simp;exact Nat.le_trans (by decide:5≤10) (by decide))];unfold pc;rw[gV];rfl
  refine⟨l',o1,?_⟩;rw[r2 _ rfl];simp only[EY,lY,mk,d0,d1,ad',ln,X5,i1,c0,ll,fw,co,sl,aa];exact fin _ _
theorem cW{a b:Sx}{ρ:Ev}{h:List PO}{Q:SR→Prop}(ρ1:Ev)(h1:List PO)(e:a ρ h=.nx ρ1 h1)(k:Q (b ρ1 h1)):Q (aA a b ρ h):=by rw[cj,e];exact k
theorem pR{α:Type}{a b:Sx}{ρ:Ev}{h:List PO}{Q:SR→Prop}(f:α→Ev)(g:α→List PO)(R:α→Prop)(e:∃x,R x∧a ρ h=.nx (f x) (g x))(k:∀x,R x→Q (b (f x) (g x))):Q (aA a b ρ h):=by obtain⟨x,hx,e⟩:=e;exact cW _ _ e (k x hx)
structure BI(k:Nat)(n:Int)(B:List Pc)(P:List Pe):Prop where
 lB:B.length=k
 nm:P.map (·.n)=B.map (·.n)
 pe:∀p∈P,sg p.n=true∧p.m≤4∧hO p.h
 gb:∀q∈B,wC q=true∧O4 (B.map (·.n)) q.b=true∧dS q.b≤4∧K4 q.b≤10000∧Qp 12 q.b=true∧q.ns.length≤12
 n0:0≤n
 n1:n≤1+60000 * k
abbrev hB(n m:Int)(B:List Pc)(P:List Pe):List PO:=[J4 n m,.lst (B.map pc),.lst (P.map M4)]
abbrev gE(cs:List Int)(ms:List (List Nat))(many:Int)(x6 x7 x8 x9 T5 Tc SN:Option PV):Ev:=[some (cv cs),some (.ref 0),some (J9 ms),some (.ref 1),some (.ref 2),some (.int many),x6,x7,x8,x9,T5,Tc,SN]
def GQ(cs:List Int)(ms:List (List Nat))(many:Int)(k:Nat)(R:SR):Prop:=∃n m B P y7 y8 y9 Yj Yi Yh,BI (k+1) n B P∧R=.nx (gE cs ms many (some (.int (0+(k:Nat)))) y7 y8 y9 Yj Yi Yh) (hB n m B P)
theorem yR(K:Nat)(hK:43≤K)(cs:List Int)(hc:cs.length≤63)(ms:List (List Nat))(ml:ms.length=12)(hm:Mu ms=true)(many:Int)(k:Nat)(hk:k<8)(n m:Int)(B:List Pc)(P:List Pe)(I:BI k n B P)(x7 x8 x9 T5 Tc SN:Option PV):
  GQ cs ms many k (ei (F K) (L K) (gE cs ms many (some (.int (0+(k:Nat)))) x7 x8 x9 T5 Tc SN) (hB n m B P)):=by
 have lB:=I.lB;have lP:P.length=k:=by have:=congrArg List.length I.nm;rw[List.length_map,List.length_map]at this;omega
 have n0:=I.n0;have n1:=I.n1;have d0:∀n m B P,aj (hB n m B P) (.ref 0)=.ref 0:=fun _ _ _ _=>rfl;have d1:∀n m B P,aj (hB n m B P) (.ref 1)=.ref 1:=fun _ _ _ _=>rfl;have d2:∀n m B P,aj (hB n m B P) (.ref 2)=.ref 2:=fun _ _ _ _=>rfl;obtain⟨K',rfl⟩:∃K',K=K'+1:=⟨K - 1,by omega⟩
 obtain⟨v,v0,v1,ce⟩:=gw K' cs hc n m n0 (by omega) [.lst (B.map pc),.lst (P.map M4)];unfold ei;refine cW _ _ (by simp only[EY,d0,ce];rfl) ?_;have t5:=ba v (by decide:(0:Int)<5);have bc:QM 4611686018427387904 (v % 5)=true:=cT.mpr ⟨by omega,by omega⟩;have l3:((List.range (v % 5).toNat).map fun i=>PV.int (0+(i:Nat))).length<16777216:=by rw[List.length_map,List.length_range];omega
 obtain⟨ns,g0,g1,g2⟩:=vN (te:=gj (F (K'+1))) (cp:=[some (J9 ms),some (.int v)]) (h:=hB (n+1) m B P) (fun i:Nat=>PV.int (0+(i:Nat))) (fun s=>sg s=true) (List.range (v % 5).toNat) fun i _=>by obtain⟨q0,q1⟩:=ba (v / 5+(0+(i:Nat))) (by decide:(0:Int)<12);obtain⟨l,l1,l2,_⟩:=gH ml hm _ q0 q1;exact⟨l,l1,by simp only[EY,gj,l2]⟩
 rw[List.length_range]at g0;have WW:Mu ns=true:=List.all_eq_true.mpr g1;have cp:∀a b c d e f g h i j k,cJ [2,7] [a,b,some (J9 ms),c,d,e,f,some (.int v),g,h,i,j,k]=[some (J9 ms),some (.int v)]:=fun _ _ _ _ _ _ _ _ _ _ _=>rfl;refine cW (gE cs ms many (some (.int (0+(k:Nat)))) (some (.int v)) (some (nms ns)) x9 T5 Tc SN) (hB (n+1) m B P) (by simp only[EY,bc,l3,cp,g2];rfl) ?_;refine cW _ _ (by simp only[EY,if_true];rfl) ?_;refine pR (fun hd=>(gE cs ms many (some (.int (0+(k:Nat)))) (some (.int v)) (some (nms ns)) (some (G_ hd)) T5 Tc SN)) (fun _=>hB (n+1) m B P) hO ?_ fun hd hh=>?_
 ·have t4:=ba (v / 180) (by decide:(0:Int)<4)
  cases c1:decide (v / 60 % 3>0)with
  |false=>exact⟨none,trivial,by simp only[EY,c1,G_]⟩
  |true=>
   cases c2:decide (0+((k:Nat):Int)<many - 1)with
   |false=>exact⟨none,trivial,by simp only[EY,c1,c2,G_]⟩
   |true=>exact⟨some (v / 180 % 4),⟨t4.1,by omega⟩,by simp only[EY,c1,c2,G_]⟩
 have pl:qa [.ref 2] (hB (n+1) m B P)=.ok (.lst (P.map M4)) (hB (n+1) m B P):=rfl;have dm:∀h,aj h (G_ hd)=G_ hd:=fun h=>jv h hd
 refine cW (gE cs ms many (some (.int (0+(k:Nat)))) (some (.int v)) (some (nms ns)) (some (G_ hd)) (some (av ⟨ns,P,hd,ms⟩)) Tc SN) (hB (n+1) m B P) (by simp only[EY,uO,jk,lJ,d2,pl,dm];rfl) ?_
 obtain⟨m2,hm2⟩:∃m2:Int,∀ ρ,gB (.int m2) (.ref 0) (.int 1) ρ (hB (n+1) m B P)=.nx ρ (hB (n+1) m2 B P)∧m2=n+1+30 - 12 * (if decide (many>5)=true then 1 else 0):=⟨_,fun ρ=>⟨rfl,rfl⟩⟩
 have i0:∀n m B P,b_ (.ref 0) (.int 0) (hB n m B P)=.ok (.int n) (hB n m B P):=fun _ _ _ _=>rfl
 refine cW (gE cs ms many (some (.int (0+(k:Nat)))) (some (.int v)) (some (nms ns)) (some (G_ hd)) (some (av ⟨ns,P,hd,ms⟩)) Tc SN) (hB (n+1) m2 B P) (by have:=(hm2 []).2;simp only[EY,d0,i0,← this,fun ρ=>(hm2 ρ).1]) ?_
 have hA:TX 4 ⟨ns,P,hd,ms⟩:=⟨WW,by show ns.length≤4;omega,by show P.length≤1000;omega,I.pe,hh,ml,hm⟩
 have c4:cg 4=29545:=rfl;have g4:gg 4=4665:=rfl;obtain⟨l1,n2,a1,a2,a3,a4⟩:=fA (uC 4 (acg _)) (K'+1) cs ⟨ns,P,hd,ms⟩ 4 (n+1) m2 (by omega) hc hA (by decide) (by omega) (by omega) [.lst (B.map pc),.lst (P.map M4)];have a4':cP (L (K'+1) .z7) [cv cs,.ref 0,av ⟨ns,P,hd,ms⟩,.int 4] (hB (n+1) m2 B P)=.ok (.tup (l1.map nd)) (hB n2 m2 B P):=a4;refine cW _ _ (by simp only[EY,d0,a4'];rfl) ?_;have a1':Rw (P.map (·.n)) 4 9330 24 l1:=a1.mono (acg _) (by omega) (by omega);refine pR (fun(x:List Nd×Int)=>(gE cs ms many (some (.int (0+(k:Nat)))) (some (.int v)) (some (nms ns)) (some (G_ hd)) (some (av ⟨ns,P,hd,ms⟩)) (some (.tup (x.1.map nd))) SN)) (fun x=>hB x.2 m2 B P) (fun x=>Rw (P.map (·.n)) 4 9330 24 x.1∧n≤x.2∧x.2≤n+59999) ?_ fun x hx=>?_
 ·obtain⟨l2,n3,b1,b2,b3,b4⟩:=fA (uC 4 (acg _)) (K'+1) cs ⟨ns,P,hd,ms⟩ 4 n2 m2 (by omega) hc hA (by decide) (by omega) (by omega) [.lst (B.map pc),.lst (P.map M4)];have b4':cP (L (K'+1) .z7) [cv cs,.ref 0,av ⟨ns,P,hd,ms⟩,.int 4] (hB n2 m2 B P)=.ok (.tup (l2.map nd)) (hB n3 m2 B P):=b4;have en:=xC (xA fun z hz=>⟨(a1.w z hz).1,Nat.le_trans (a1.w z hz).2.2.1 (by decide)⟩) (hB n2 m2 B P);have la:=sG l1;have lb:=sG l2;have ac:=a1.c;have bc:=b1.c
  have ad:∀h,aq (.tup (l1.map nd)) (.tup (l2.map nd)) h=.ok (.tup ((l1++l2).map nd)) h:=fun h=>by rw[dh _ _ h (by rw[List.length_map,List.length_map];exact Nat.le_trans (by omega:_≤10000) (by decide)),List.map_append]
  have b1':Rw (P.map (·.n)) 4 9330 24 (l1++l2):=(a1.app b1).mono (acg _) (by omega) (by omega)
  cases c1:(l1.map nd).isEmpty with
  |true=>exact⟨(l1++l2,n3),⟨b1',by dsimp only;omega,by dsimp only;omega⟩,by simp only[EY,en,c1,d0,b4',ad]⟩
  |false=>
   cases c2:decide (v / 720 % 3=1)with
   |true=>exact⟨(l1++l2,n3),⟨b1',by dsimp only;omega,by dsimp only;omega⟩,by simp only[EY,en,c1,c2,d0,b4',ad]⟩
   |false=>exact⟨(l1,n2),⟨a1',by dsimp only;omega,by dsimp only;omega⟩,by simp only[EY,en,c1,c2]⟩
 obtain⟨l,n3⟩:=x;obtain⟨hl,hn3,hn4⟩:=hx;dsimp only at hl hn3 hn4 ⊢;have Sg:=ba (v / 2160+(0+((k:Nat):Int))) (by decide:(0:Int)<12);obtain⟨nm,nm1,nm2,_⟩:=gH ml hm _ Sg.1 Sg.2;refine cW _ _ (by simp only[EY,nm2];rfl) ?_
 have sP:∀x∈P.map (·.n),∀c∈x,c<1114112:=fun x hx=>by obtain⟨p,hp,rfl⟩:=List.mem_map.mp hx;exact gA (I.pe p hp).1
 have lq:(P.map M4).length<sizeLine:=by rw[List.length_map];exact Nat.lt_of_le_of_lt (by omega:_≤10) (by decide)
 have cq:∀(te:Ex)(ρ:Ev),(∀p∈P,te [some (M4 p)] (hB n3 m2 B P)=.ok (.str p.n) (hB n3 m2 B P))→ρ[4]? =some (some (.ref 2))→kU [] 4 dR te ρ (hB n3 m2 B P)=.ok ((P.map (·.n)).map PV.str) (hB n3 m2 B P):=fun te ρ ht hr=>by unfold kU ag;rw[hr];show(if(P.map M4).length<sizeLine then bG dR te [] (P.map M4) (hB n3 m2 B P)else .bad)=_;rw[if_pos lq,List.map_map];exact rK M4 _ P ht
 have e2:∀p:Pe,eC (F (K'+1)) [some (M4 p)] (hB n3 m2 B P)=.ok (.str p.n) (hB n3 m2 B P):=fun p=>rfl;have e3:∀p:Pe,eA (F (K'+1)) [some (M4 p)] (hB n3 m2 B P)=.ok (.str p.n) (hB n3 m2 B P):=fun p=>rfl;refine pR (fun x=>(gE cs ms many (some (.int (0+(k:Nat)))) (some (.int v)) (some (nms ns)) (some (G_ hd)) (some (av ⟨ns,P,hd,ms⟩)) (some (.tup (l.map nd))) (some (.str x)))) (fun _=>hB n3 m2 B P) (fun x=>sg x=true∧(x∈P.map (·.n)→x.length≤10)) ?_ fun x hx=>?_
 ·have RZ:=Dy (gA nm1) sP (hB n3 m2 B P);have c2:=fun ρ=>cq (eC (F (K'+1))) ρ fun p _=>e2 p
  by_cases z:nm∈P.map (·.n)
  ·rw[decide_eq_true z]at RZ
   obtain⟨w,w1,w2,w3⟩:∃w,sg w=true∧w.length≤10∧Np [PV.str [102,105,114,115,116],.str [115,101,99,111,110,100],.str [116,104,105,114,100],.str [102,111,117,114,116,104],.str [102,105,102,116,104],.str [115,105,120,116,104],.str [115,101,118,101,110,116,104],.str [101,105,103,104,116,104]] (0+((k:Nat):Int))=some (.str w):=by rcases(show k=0∨k=1∨k=2∨k=3∨k=4∨k=5∨k=6∨k=7 by omega)with q|q|q|q|q|q|q|q<;>rw[q]<;>exact⟨_,by decide,by decide,rfl⟩
   exact⟨w,⟨w1,fun _=>w2⟩,by simp only[EY,c2,RZ,w3]⟩
  ·rw[decide_eq_false z]at RZ;exact⟨nm,⟨nm1,fun y=>(z y).elim⟩,by simp only[EY,c2,RZ]⟩
 refine pR (fun x=>(gE cs ms many (some (.int (0+(k:Nat)))) (some (.int v)) (some (nms ns)) (some (G_ hd)) (some (av ⟨ns,P,hd,ms⟩)) (some (.tup (l.map nd))) (some (.str x)))) (fun _=>hB n3 m2 B P) (fun x=>sg x=true) ?_ fun y hy=>?_
 ·have RZ:=Dy (gA hx.1) sP (hB n3 m2 B P);have c2:=fun ρ=>cq (eA (F (K'+1))) ρ fun p _=>e3 p
  by_cases z:x∈P.map (·.n)
  ·rw[decide_eq_true z]at RZ;have lx:x.length+1≤16777216:=by have:=hx.2 z;omega
   exact⟨x++ [113],zE hx.1 (by decide),by simp only[EY,c2,RZ,lx]⟩
  ·rw[decide_eq_false z]at RZ;exact⟨x,hx.1,by simp only[EY,c2,RZ]⟩
 rw[I.nm]at hl;obtain⟨lo,o1,o2⟩:=vJ (B.map (·.n)) 4 9330 24 K' (by decide) (by decide) (by decide) true l hl;have co:∀h,bj (F (K'+1) .Nk) [.tup (l.map nd)] h=.ok (.tup (lo.map nd)) h:=fun h=>aM h (by simp[ai,PV.pure,fV]) o2;obtain⟨lf,f1,f2⟩:=GE K' (by omega) B y ns hd lo (by omega) (fun q hq=>⟨(I.gb q hq).2.1,by have:=(I.gb q hq).2.2.2.1;omega⟩) o1 (by decide) (by decide) (by decide);have cf:=dq (fn:=L (K'+1) .Oc) [] [pc ⟨y,ns,hd,MJ lo⟩] (h:=hB n3 m2 B P) (i:=1) rfl (by rw[ai,gT];rfl) rfl (by simp[PO.pure,iC]) f2 (gT _) (by simp[PO.pure,iC])
 have cf':cP (L (K'+1) .Oc) [.ref 1,.tup [.str tI,.str y,nms ns,G_ hd,.tup (lo.map nd)]] (hB n3 m2 B P)=.ok (pc ⟨y,ns,hd,MJ lf⟩) (hB n3 m2 B P):=by rw[← gV lo];exact cf
 have i1:dU (hB n3 m2 B P) (.ref 1)=true:=rfl
 have ap:bV (.ref 1) [pc ⟨y,ns,hd,MJ lf⟩] (hB n3 m2 B P)=.ok .non (hB n3 m2 (B++ [⟨y,ns,hd,MJ lf⟩]) P):=by rw[BU (h:=hB n3 m2 B P) (i:=1) (acc:=B.map pc) rfl _ (by rw[List.length_map];omega)];show Res.ok PV.non [J4 n3 m2,.lst (B.map pc++ [pc ⟨y,ns,hd,MJ lf⟩]),.lst (P.map M4)]=_;rw[show B.map pc++ [pc ⟨y,ns,hd,MJ lf⟩]=(B++ [(⟨y,ns,hd,MJ lf⟩:Pc)]).map pc by rw[List.map_append];rfl]
 refine cW (gE cs ms many (some (.int (0+(k:Nat)))) (some (.int v)) (some (nms ns)) (some (G_ hd)) (some (av ⟨ns,P,hd,ms⟩)) (some (.tup (l.map nd))) (some (.str y))) (hB n3 m2 (B++ [⟨y,ns,hd,MJ lf⟩]) P) (by simp only[EY,d1,i1,dm,co,cf',ap]) ?_
 have i2:dU (hB n3 m2 (B++ [⟨y,ns,hd,MJ lf⟩]) P) (.ref 2)=true:=rfl
 have ap2:bV (.ref 2) [M4 ⟨y,ns.length,hd⟩] (hB n3 m2 (B++ [⟨y,ns,hd,MJ lf⟩]) P)=.ok .non (hB n3 m2 (B++ [⟨y,ns,hd,MJ lf⟩]) (P++ [⟨y,ns.length,hd⟩])):=by rw[BU (h:=hB n3 m2 (B++ [(⟨y,ns,hd,MJ lf⟩:Pc)]) P) (i:=2) (acc:=P.map M4) rfl _ (by rw[List.length_map];omega)];show Res.ok PV.non [J4 n3 m2,_,.lst (P.map M4++ [M4 ⟨y,ns.length,hd⟩])]=_;rw[show P.map M4++ [M4 ⟨y,ns.length,hd⟩]=(P++ [(⟨y,ns.length,hd⟩:Pe)]).map M4 by rw[List.map_append];rfl]
 have ZR:bV (.ref 2) [.tup [.str y,.int ns.length,G_ hd]] (hB n3 m2 (B++ [⟨y,ns,hd,MJ lf⟩]) P)=.ok .non (hB n3 m2 (B++ [⟨y,ns,hd,MJ lf⟩]) (P++ [⟨y,ns.length,hd⟩])):=ap2;obtain⟨f5,f6,f7,f8⟩:=f1.f9;have fc:=f1.c;have fs:=jj lf;have mo:∀x∈B.map (·.n),x∈(B++ [(⟨y,ns,hd,MJ lf⟩:Pc)]).map (·.n):=fun x hx=>by rw[List.map_append];exact List.mem_append_left _ hx
 refine⟨n3,m2,B++ [⟨y,ns,hd,MJ lf⟩],P++ [⟨y,ns.length,hd⟩],_,_,_,_,_,_,⟨by rw[List.length_append,lB];rfl,by rw[List.map_append,List.map_append,I.nm];rfl,fun p hp=>?_,fun q hq=>?_,by omega,by omega⟩,by simp only[EY,d2,i2,dm,ZR];rfl⟩
 ·rcases List.mem_append.mp hp with z|z
  ·exact I.pe p z
  ·cases List.mem_singleton.mp z;exact⟨hy,by show ns.length≤4;omega,hh⟩
 ·rcases List.mem_append.mp hq with z|z
  ·obtain⟨u1,u2,u3,u4⟩:=I.gb q z;exact⟨u1,dG mo _ u2,u3,u4⟩
  ·cases List.mem_singleton.mp z
   refine⟨?_,dG mo _ f6,f7,by show K4 (MJ lf)≤_;omega,f8,by show ns.length≤12;omega⟩;simp only[wC,hy,WW,f5,Bool.true_and,acf,decide_eq_true_eq];omega
theorem qx(K:Nat)(hK:43≤K)(cs:List Int)(hc:cs.length≤63)(ms:List (List Nat))(ml:ms.length=12)(hm:Mu ms=true)(many:Int):∀(r s:Nat),s+r≤8→∀(n m:Int)(B:List Pc)(P:List Pe)(x6 x7 x8 x9 T5 Tc SN:Option PV),BI s n B P→
  ∃n' m' B' P' ρ',BI (s+r) n' B' P'∧aN (w6 6) (ei (F K) (L K)) ((List.range' s r).map fun i=>PV.int (0+(i:Nat))) (gE cs ms many x6 x7 x8 x9 T5 Tc SN) (hB n m B P)=.nx ρ' (hB n' m' B' P')∧ρ'[3]? =some (some (.ref 1))
 |0,s,_,n,m,B,P,x6,x7,x8,x9,T5,Tc,SN,I=>⟨n,m,B,P,_,I,by rw[List.range',List.map_nil,aN],rfl⟩
 |r+1,s,hs,n,m,B,P,x6,x7,x8,x9,T5,Tc,SN,I=>by obtain⟨n1,m1,B1,P1,y7,y8,y9,Yj,Yi,Yh,I1,e⟩:=yR K hK cs hc ms ml hm many s (by omega) n m B P I x7 x8 x9 T5 Tc SN;obtain⟨n2,m2,B2,P2,ρ2,I2,e2,e3⟩:=qx K hK cs hc ms ml hm many r (s+1) (by omega) n1 m1 B1 P1 (some (.int (0+(s:Nat)))) y7 y8 y9 Yj Yi Yh I1;refine⟨n2,m2,B2,P2,ρ2,by rw[show s+(r+1)=s+1+r by omega];exact I2,?_,e3⟩;rw[List.range'_succ,List.map_cons];exact Eq.trans (jT rfl e) e2
theorem DA(K:Nat)(hK:43≤K)(cs:List Int)(hc:cs.length≤63)(ms:List (List Nat))(ml:ms.length=12)(hm:Mu ms=true):
  ∃B n m,1≤B.length∧B.length≤8∧(∀q∈B,wC q=true∧dS q.b≤4∧K4 q.b≤10000∧Qp 12 q.b=true∧q.ns.length≤12)∧L (K+1) .p7 [cv cs,.ref 0,J9 ms] [J4 0 40]=.ok (bk B) [J4 n m]:=by
 obtain⟨K',rfl⟩:∃K',K=K'+1:=⟨K - 1,by omega⟩
 obtain⟨v,v0,v1,ce⟩:=gw K' cs hc 0 40 (by decide) (by decide) [.lst [],.lst []];have t8:=ba (v / 7) (by decide:(0:Int)<8)
 obtain⟨c,c1,c8,ec⟩:∃c:Nat,1≤c∧c≤8∧Np [PV.int 1,.int 2,.int 3,.int 4,.int 5,.int 3,.int 4,.int 8] (v / 7 % 8)=some (.int (c:Nat)):=by
  rcases(show v / 7 % 8=0∨v / 7 % 8=1∨v / 7 % 8=2∨v / 7 % 8=3∨v / 7 % 8=4∨v / 7 % 8=5∨v / 7 % 8=6∨v / 7 % 8=7 by omega)with q|q|q|q|q|q|q|q<;>rw[q]
  ·exact⟨1,by decide,by decide,rfl⟩
  ·exact⟨2,by decide,by decide,rfl⟩
  ·exact⟨3,by decide,by decide,rfl⟩
  ·exact⟨4,by decide,by decide,rfl⟩
  ·exact⟨5,by decide,by decide,rfl⟩
  ·exact⟨3,by decide,by decide,rfl⟩
  ·exact⟨4,by decide,by decide,rfl⟩
  ·exact⟨8,by decide,by decide,rfl⟩
 obtain⟨n',m',B,P,ρ',I,e,e3⟩:=qx (K'+1) hK cs hc ms ml hm c c 0 (by omega) 1 40 [] [] none none none none none none none ⟨rfl,rfl,fun p hp=>(by cases hp),fun q hq=>(by cases hq),by decide,by decide⟩;rw[Nat.zero_add]at I;refine⟨B,n',m',by rw[I.lB];exact c1,by rw[I.lB];exact c8,fun q hq=>⟨(I.gb q hq).1,(I.gb q hq).2.2.1,(I.gb q hq).2.2.2⟩,?_⟩;have r2:L (K'+1+1) .p7 [cv cs,.ref 0,J9 ms] [J4 0 40]=match fN (F (K'+1)) (L (K'+1)) [some (cv cs),some (.ref 0),some (J9 ms),none,none,none,none,none,none,none,none,none,none] [J4 0 40]with|.nx _ h1=>gk 1 .non h1|.rt v h1=>dX 1 v h1|_=>.bad:=rfl
 have d0:∀n m B P,aj (hB n m B P) (.ref 0)=.ref 0:=fun _ _ _ _=>rfl;have s3:aO 3 aa4 [some (cv cs),some (.ref 0),some (J9 ms),none,none,none,none,none,none,none,none,none,none] [J4 0 40]=.nx [some (cv cs),some (.ref 0),some (J9 ms),some (.ref 1),none,none,none,none,none,none,none,none,none] [J4 0 40,.lst []]:=rfl;have s4:aO 4 aa4 [some (cv cs),some (.ref 0),some (J9 ms),some (.ref 1),none,none,none,none,none,none,none,none,none] [J4 0 40,.lst []]=.nx [some (cv cs),some (.ref 0),some (J9 ms),some (.ref 1),some (.ref 2),none,none,none,none,none,none,none,none] (hB 0 40 [] []):=rfl;have bc:QM 4611686018427387904 ((c:Nat):Int)=true:=cT.mpr ⟨by omega,by omega⟩;have rg:(List.range ((c:Nat):Int).toNat)=List.range' 0 c:=by rw[Int.toNat_natCast,List.range_eq_range']
 have Xa:cP (L (K'+1) .K1) [cv cs,.ref 0] (hB 0 40 [] [])=.ok (.int v) (hB 1 40 [] []):=ce;rw[r2];unfold fN;rw[cj,s3];dsimp only;rw[cj,s4];dsimp only;simp only[EY,GF,d0,Xa,ec,bc,rg,e,e3];show dX 1 (bk B) (hB n' m' B P)=_;unfold dX;rw[iE _ (cC B)];rfl
theorem BL{α:Type}(l:List α)(b:Nat):cut l (some (b:Int)) none=l.drop b:=by
 unfold cut;rw[HT.Q_,HT.Rj];rcases Nat.le_total b l.length with q|q
 ·rw[Nat.min_eq_left q,List.take_of_length_le (by rw[List.length_drop];omega)]
 ·rw[Nat.min_eq_right q,List.drop_of_length_le (acg _),List.drop_of_length_le q];simp
theorem cV(xs:List PV)(j:Nat)(h:List PO):cQ (.tup xs) (some (j:Int)) none h=.ok (.tup (xs.drop j)) h:=by rw[qR,BL]
theorem Ds{ms:List (List Nat)}(hs:Mu ms=true)(i:Int)(h0:0≤i)(h1:i<ms.length):∃l,sg l=true∧∀h,b_ (J9 ms) (.int i) h=.ok (.str l) h:=by
 have hi:i.toNat<ms.length:=by omega
 refine⟨ms.getD i.toNat [],List.all_eq_true.mp hs _ (jB hi),fun h=>?_⟩;unfold J9;rw[uy,dJ (v:=PV.str (ms.getD i.toNat [])) h0 (by rw[List.getElem?_map,List.getD_eq_getElem?_getD,List.getElem?_eq_getElem hi];rfl)];rfl
section
variable{ms:List (List Nat)}(ml:ms.length=12)(hm:Mu ms=true)
include ml hm
theorem Ed(c:Int):∃l,sg l=true∧(∀h,aq (J9 ms) (.lst [.str [122,122]]) h=.ok (J9 (ms++ [[122,122]])) h)∧∀h,b_ (J9 (ms++ [[122,122]])) (.int (c % 13)) h=.ok (.str l) h:=by have t:=ba c (by decide:(0:Int)<13);obtain⟨l,l1,l2⟩:=Ds (ms:=ms++ [[122,122]]) (jL hm (by decide)) (c % 13) t.1 (by simp[ml];omega);refine⟨l,l1,fun h=>?_,l2⟩;unfold J9;rw[sQ _ _ h (by simp[ml]),List.map_append];rfl
theorem pE(k:Nat)(p:Mz)(hp:wp p=true)(c:Int):∃p',wp p'=true∧F (k+1) .j8 [MF p,.int c,J9 ms]=.ok (MF p'):=by
 obtain⟨l,l1,l2,l3⟩:=Ed ml hm c;rw[wp,acf]at hp;refine⟨⟨l,p.f⟩,by rw[wp,l1,hp.2];rfl,?_⟩
 have r2:F (k+1) .j8 [MF p,.int c,J9 ms]=match eU (F k) [some (MF p),some (.int c),some (J9 ms)] []with
   |.nx _ _=>.ok .non
   |.rt v h=>cr v h
   |_=>.bad:=rfl
 have sl:∀h,cQ (MF p) (some 1) none h=.ok (.tup (p.f.map PV.str)) h:=fun h=>cV _ 1 h
 have ad:∀h,aq (.tup [.str l]) (.tup (p.f.map PV.str)) h=.ok (MF ⟨l,p.f⟩) h:=fun h=>by have q:=hp.2;rw[acf,decide_eq_true_eq]at q;rw[dh _ _ h (by rw[List.length_map];exact Nat.le_trans (by simp;omega:_≤100) (by decide))];rfl
 rw[r2];simp only[EY,eU,l2,l3,sl,ad];exact bD (eQ _)
end
theorem nr{α:Type}(k:Nat)(g:α→PV)(gp:∀x,(g x).pure=true)(l:List α)(ll:l.length≤1000)(a:α)(c:Int):∃l':List α,(∀x∈l',x∈l∨x=a)∧l'.length≤2 * l.length+1∧F (k+1) .i_ [.tup (l.map g),.int c,g a]=.ok (.tup (l'.map g)):=by
 have pg:∀l:List α,ai (l.map g)=true:=fun l=>by
  induction l with
  |nil=>rfl
  |cons a r ih=>rw[List.map_cons,ai,gp,ih];rfl
 have r2:∀T,cA (F k) [some (.tup (l.map g)),some (.int c),some (g a),none] []=T→F (k+1) .i_ [.tup (l.map g),.int c,g a]=match T with
   |.nx _ _=>.ok .non
   |.rt v h=>cr v h
   |_=>.bad:=fun T e=>by subst e;rfl
 have t:=ba (c / 4) (show(0:Int)<(l.length:Int)+1 by omega);obtain⟨i,hi⟩:∃i:Nat,c / 4 % ((l.length:Int)+1)=(i:Int):=⟨(c / 4 % ((l.length:Int)+1)).toNat,by omega⟩
 rw[hi]at t;have pl:decide (0<(l.length:Int)+1)=true:=decide_eq_true (by omega);have ln:∀h,bF [.tup (l.map g)] h=.ok (.int l.length) h:=fun h=>by rw[qj,List.length_map]
 have da:∀h,aj h (g a)=g a:=fun h=>lR (h:=h) (gp a);have s1:∀h,cQ (.tup (l.map g)) none (some (i:Int)) h=.ok (.tup ((l.take i).map g)) h:=fun h=>by rw[eF,List.map_take]
 have s2:∀h,cQ (.tup (l.map g)) (some (i:Int)) none h=.ok (.tup ((l.drop i).map g)) h:=fun h=>by rw[cV,List.map_drop]
 have s3:∀h,cQ (.tup (l.map g)) (some ((i:Int)+1)) none h=.ok (.tup ((l.drop (i+1)).map g)) h:=fun h=>by have:=cV (l.map g) (i+1) h;rw[← List.map_drop]at this;exact this
 have s4:∀h,cQ (.tup ((l.take i).map g)) (some (-1)) none h=.ok (.tup ((cut (l.take i) (some (-1)) none).map g)) h:=fun h=>by rw[qR,sB]
 have lt:(l.take i).length≤l.length:=List.length_take_le' i l;have ld:(l.drop i).length≤l.length:=by rw[List.length_drop];omega
 have ld1:(l.drop (i+1)).length≤l.length - (i+1):=by rw[List.length_drop];omega
 have lc:=lV (l.take i) (some (-1)) none;have lt2:(l.take i).length≤i:=List.length_take_le i l
 have ad:∀(x y:List α) h,x.length+y.length≤10000→aq (.tup (x.map g)) (.tup (y.map g)) h=.ok (.tup ((x++y).map g)) h:=fun x y h q=>by rw[dh _ _ h (by rw[List.length_map,List.length_map];exact Nat.le_trans q (by decide)),List.map_append]
 have one:PV.tup [g a]=.tup ([a].map g):=rfl;have fin:∀l':List α,cr (.tup (l'.map g)) []=.ok (.tup (l'.map g)):=fun l'=>bD (by rw[PV.pure];exact pg l')
 by_cases c0:c % 4=0∧(l.length:Int)<5
 ·have z1:decide (c % 4=0)=true:=decide_eq_true c0.1;have z2:decide ((l.length:Int)<5)=true:=decide_eq_true c0.2;refine⟨l.take i++ [a]++l.drop i,fun x hx=>?_,?_,?_⟩
  ·rcases List.mem_append.mp hx with h|h
   ·rcases List.mem_append.mp h with h|h
    ·exact .inl (List.mem_of_mem_take h)
    ·exact .inr (List.mem_singleton.mp h)
   ·exact .inl (List.mem_of_mem_drop h)
  ·rw[List.length_append,List.length_append,List.length_singleton];rw[List.length_drop,List.length_take];omega
  ·have a1:=fun h=>ad (l.take i) [a] h (by simp;omega);have a2:=fun h=>ad (l.take i++ [a]) (l.drop i) h (by simp;omega);rw[r2 _ rfl];simp only[EY,cA,ln,pl,hi,z1,z2,s1,s2,da,one,a1,a2];exact fin _
 have f0:(decide (c % 4=0)&&decide ((l.length:Int)<5))=false:=by
  cases e1:decide (c % 4=0)with
  |false=>rfl
  |true=>exact decide_eq_false fun z=>c0 ⟨of_decide_eq_true e1,z⟩
 by_cases c1:c % 4=1
 ·have z0:decide (c % 4=0)=false:=decide_eq_false (by omega);have z1:decide (c % 4=1)=true:=decide_eq_true c1;refine⟨l.take i++l.drop (i+1),fun x hx=>?_,?_,?_⟩
  ·rcases List.mem_append.mp hx with h|h
   ·exact .inl (List.mem_of_mem_take h)
   ·exact .inl (List.mem_of_mem_drop h)
  ·rw[List.length_append];omega
  ·have a1:=fun h=>ad (l.take i) (l.drop (i+1)) h (by omega);rw[r2 _ rfl];simp only[EY,cA,ln,pl,hi,z0,z1,s1,s3,a1];exact fin _
 have z1:decide (c % 4=1)=false:=decide_eq_false c1;refine⟨l.take i++cut (l.take i) (some (-1)) none++l.drop (i+1),fun x hx=>?_,?_,?_⟩
 ·rcases List.mem_append.mp hx with h|h
  ·rcases List.mem_append.mp h with h|h
   ·exact .inl (List.mem_of_mem_take h)
   ·exact .inl (List.mem_of_mem_take (jW h))
  ·exact .inl (List.mem_of_mem_drop h)
 ·rw[List.length_append,List.length_append];omega
 ·have a1:=fun h=>ad (l.take i) (cut (l.take i) (some (-1)) none) h (by omega);have a2:=fun h=>ad (l.take i++cut (l.take i) (some (-1)) none) (l.drop (i+1)) h (by rw[List.length_append];omega);rw[r2 _ rfl]
  cases e1:decide (c % 4=0)with
  |false=>simp only[EY,cA,ln,pl,hi,e1,z1,s1,s3,s4,a1,a2];exact fin _
  |true=>rw[e1,Bool.true_and]at f0;simp only[EY,cA,ln,pl,hi,e1,f0,z1,s1,s3,s4,a1,a2];exact fin _
noncomputable def M5(x:List Nat)(ps:List Mz):Option (List (List Nat)×G8)→Nd
 |none=>.use x ps
 |some (h,c)=>.j4 x ps h c
def o3:Option (List (List Nat)×G8)→PV
 |none=>.non
 |some (h,_)=>nms h
def o4:Option (List (List Nat)×G8)→PV
 |none=>.non
 |some (_,c)=>.tup (f9 c)
theorem eS(x:List Nat)(ps:List Mz)(o:Option (List (List Nat)×G8)):nd (M5 x ps o)=.tup [.str tU,.str x,.tup (bg ps),o3 o,o4 o]:=by
 cases o with
 |none=>rw[M5,nd];rfl
 |some y=>obtain⟨h,c⟩:=y;rw[M5,nd];rfl
structure ND(b:Nat)(n x:Nd):Prop where
 w:wN x=true
 d:dN x≤dN n+1
 c:Ma x≤Ma n
 l:Nm (2 * b+1) x=true
mutual
theorem Bc{a b:Nat}(h:a≤b):∀n:Nd,Nm a n=true→Nm b n=true
 |.loop _ _ c _,e=>by rw[Nm]at e ⊢;exact bQ h c e
 |.choice _ y z,e=>by rw[Nm,acf]at e ⊢;exact⟨bQ h y e.1,bQ h z e.2⟩
 |.use x _,e=>by rw[Nm,decide_eq_true_eq]at e ⊢;omega
 |.j4 x _ _ c,e=>by rw[Nm,acf,acf,decide_eq_true_eq,decide_eq_true_eq]at e ⊢;exact⟨by omega,by omega,bQ h c e.2.2⟩
 |.body _,e=>by rw[Nm,decide_eq_true_eq]at e ⊢;omega
 |.text _,_=>rfl
 |.place _ _,_=>rfl
theorem bQ{a b:Nat}(h:a≤b):∀c:G8,Qp a c=true→Qp b c=true
 |.nil,_=>rfl
 |.cons n r,e=>by rw[Qp,acf]at e ⊢;exact⟨Bc h n e.1,bQ h r e.2⟩
end
theorem nG{ps:List Mz}(h:∀p∈ps,wp p=true)(hl:ps.length<60):wps ps=true:=by rw[wps,List.all_eq_true.mpr h,decide_eq_true hl];rfl
theorem zm{ps:List Mz}(h:wps ps=true):∀p∈ps,wp p=true:=fun p hp=>List.all_eq_true.mp (nh h) p hp
theorem vd{s:List Nat}(h:sg s=true):wp ⟨s,[]⟩=true:=by rw[wp,h];rfl
theorem wM{α:Type}(x:α)(k:Int):mS [x] k=List.replicate k.toNat x:=by
 unfold mS
 induction k.toNat with
 |zero=>rfl
 |succ n ih=>rw[List.replicate_succ,List.flatten_cons,ih,List.replicate_succ];rfl
theorem mul_one(p:Mz)(k:Int)(h0:0≤k)(h1:k≤10)(h:List PO):km (.tup [MF p]) (.int k) h=.ok (.tup (bg (List.replicate k.toNat p))) h:=by rw[AY,if_pos ⟨cT.mpr ⟨by omega,by omega⟩,by show 1 * k.toNat≤_;rw[Nat.one_mul];exact Nat.le_trans (by omega:k.toNat≤10) (show(10:Nat)≤sizeLine by decide)⟩,wM];unfold bg;rw[List.map_replicate]
section
variable{ms:List (List Nat)}(ml:ms.length=12)(hm:Mu ms=true)
include ml hm
theorem ja(k:Nat)(p:Mz)(hp:wp p=true)(c:Int):∃p',wp p'=true∧∀h,bj (F (k+1) .j8) [MF p,.int c,J9 ms] h=.ok (MF p') h:=by obtain⟨p',a,b⟩:=pE ml hm k p hp c;exact⟨p',a,fun h=>aM h (by simp[ai,eQ,PV.pure,gG]) b⟩
theorem mL(k:Nat)(nv:PV)(c more:Int)(x4:Option PV):∀(ps acc:List Mz)(j:Nat)(x6 x7:Option PV),j+ps.length≤1000→acc.length+ps.length≤1000→(∀p∈ps,wp p=true)→(∀p∈acc,wp p=true)→∃Qu y6 y7,Qu.length=acc.length+ps.length∧(∀p∈Qu,wp p=true)∧
  aN (Oz 2 aaP) (cU (F (k+1))) (Od j (bg ps)) [some nv,some (.int c),some (J9 ms),some (.int more),x4,some (.ref 0),x6,x7] [.lst (bg acc)]=.nx [some nv,some (.int c),some (J9 ms),some (.int more),x4,some (.ref 0),y6,y7] [.lst (bg Qu)]
 |[],acc,j,x6,x7,_,_,_,ha=>⟨acc,x6,x7,rfl,ha,by rw[bg,List.map_nil,Od,aN]⟩
 |p::r,acc,j,x6,x7,hj,hl,hp,ha=>by
  rw[List.length_cons]at hj hl;obtain⟨p',w1,w2⟩:=ja ml hm k p (hp p List.mem_cons_self) (more / ((j:Int)+1))
  obtain⟨Qu,y6,y7,e1,e2,e3⟩:=mL k nv c more x4 r (acc++ [p']) (j+1) (some (.int j)) (some (MF p)) (by omega) (by rw[List.length_append,List.length_singleton];omega) (fun z hz=>hp z (List.mem_cons_of_mem _ hz)) fun z hz=>by
   rcases List.mem_append.mp hz with h|h
   ·exact ha z h
   ·cases List.mem_singleton.mp h;exact w1
  refine⟨Qu,y6,y7,by rw[e1,List.length_append];simp only[List.length_cons,List.length_nil];omega,e2,?_⟩;have pd:decide (0<(j:Int)+1∧(j:Int)+1<1073741824)=true:=decide_eq_true (by omega);have d0:∀xs:List PV,aj [.lst xs] (.ref 0)=.ref 0:=fun xs=>rfl;have li:∀xs,dU [.lst xs] (.ref 0)=true:=fun _=>rfl
  have ap:bV (.ref 0) [MF p'] [.lst (bg acc)]=.ok .non [.lst (bg (acc++ [p']))]:=by rw[GO,if_pos (by unfold bg;rw[List.length_map];exact Nat.lt_of_le_of_lt (by omega:_≤1000) (by decide))];unfold bg;rw[List.map_append];rfl
  have one:cU (F (k+1)) [some nv,some (.int c),some (J9 ms),some (.int more),x4,some (.ref 0),some (.int j),some (MF p)] [.lst (bg acc)]=.nx [some nv,some (.int c),some (J9 ms),some (.int more),x4,some (.ref 0),some (.int j),some (MF p)] [.lst (bg (acc++ [p']))]:=by simp only[EY,cU,d0,li,pd,w2,ap]
  rw[show bg (p::r)=MF p::bg r from rfl,Od];exact Eq.trans (jT rfl one) e3
end
def wO:Option (List (List Nat)×G8)→Bool
 |none=>true
 |some (h,c)=>Mu h&&(decide (h.length<60)&&wS c)
noncomputable def lO(b:Nat):Option (List (List Nat)×G8)→Bool
 |none=>true
 |some (h,c)=>decide (h.length≤b)&&Qp b c
theorem nH{x:List Nat}{ps:List Mz}{o:Option (List (List Nat)×G8)}(h1:sg x=true)(h2:wps ps=true)(h3:wO o=true):wN (M5 x ps o)=true:=by
 cases o with
 |none=>rw[M5,wN,h1,h2];rfl
 |some y=>obtain⟨h,c⟩:=y;rw[M5,wN,h1,h2];exact h3
theorem oK{b:Nat}{x:List Nat}{ps:List Mz}{o:Option (List (List Nat)×G8)}(h2:ps.length≤b)(h3:lO b o=true):Nm b (M5 x ps o)=true:=by
 cases o with
 |none=>rw[M5,Nm];exact decide_eq_true h2
 |some y=>obtain⟨h,c⟩:=y;rw[M5,Nm,decide_eq_true h2];exact h3
theorem rN{a b:Nat}(h:a≤b){o:Option (List (List Nat)×G8)}(e:lO a o=true):lO b o=true:=by
 cases o with
 |none=>rfl
 |some y=>obtain⟨g,c⟩:=y;rw[lO,acf,decide_eq_true_eq]at e ⊢;exact⟨by omega,bQ h c e.2⟩
theorem vX(x x':List Nat)(ps T9:List Mz)(o:Option (List (List Nat)×G8)):dN (M5 x' T9 o)=dN (M5 x ps o)∧Ma (M5 x' T9 o)=Ma (M5 x ps o):=by
 cases o with
 |none=>exact⟨rfl,rfl⟩
 |some y=>obtain⟨h,c⟩:=y;rw[M5,M5,dN,dN,Ma,Ma];exact⟨rfl,rfl⟩
theorem Ie(h:List PO)(o:Option (List (List Nat)×G8)):aj h (o3 o)=o3 o:=by cases o<;>rfl
theorem Id(h:List PO)(o:Option (List (List Nat)×G8)):aj h (o4 o)=o4 o:=by cases o<;>rfl
section
variable{ms:List (List Nat)}(ml:ms.length=12)(hm:Mu ms=true)
include ml hm
theorem um(k b:Nat)(hb:b≤25)(UG:12≤b)(x:List Nat)(ps:List Mz)(o:Option (List (List Nat)×G8))(hx:sg x=true)(Vu:wps ps=true)(hlp:ps.length≤b)(ho:wO o=true)(Vx:lO b o=true)(c:Int):∃n',ND b (M5 x ps o) n'∧F (k+2) .j6 [nd (M5 x ps o),.int c,J9 ms]=.ok (nd n'):=by
 have r2:∀n':Nd,aF (F (k+1)) [some (nd (M5 x ps o)),some (.int c),some (J9 ms),none,none,none,none,none] []=.rt (nd n') []→F (k+2) .j6 [nd (M5 x ps o),.int c,J9 ms]=.ok (nd n'):=fun n' e=>rF (b:=aF (F (k+1))) (np:=3) (n:=8) (ps:=[nd (M5 x ps o),.int c,J9 ms]) e rfl ((bz n'));have Sg:=ba (c / 5) (by decide:(0:Int)<12);obtain⟨y,y1,y2,_⟩:=gH ml hm _ Sg.1 Sg.2;have i0:∀h,b_ (nd (M5 x ps o)) (.int 0) h=.ok (.str tU) h:=fun h=>by rw[eS];rfl
 have i2:∀h,b_ (nd (M5 x ps o)) (.int 2) h=.ok (.tup (bg ps)) h:=fun h=>by rw[eS];rfl
 have i3:∀h,b_ (nd (M5 x ps o)) (.int 3) h=.ok (o3 o) h:=fun h=>by rw[eS];show Res.ok (aj h (o3 o)) h=_;rw[Ie]
 have i4:∀h,b_ (nd (M5 x ps o)) (.int 4) h=.ok (o4 o) h:=fun h=>by rw[eS];show Res.ok (aj h (o4 o)) h=_;rw[Id]
 have s2:∀h,cQ (nd (M5 x ps o)) (some 2) none h=.ok (.tup [.tup (bg ps),o3 o,o4 o]) h:=fun h=>by rw[eS];exact cV _ 2 h
 have s3:∀h,cQ (nd (M5 x ps o)) (some 3) none h=.ok (.tup [o3 o,o4 o]) h:=fun h=>by rw[eS];exact cV _ 3 h
 have q2:∀h,cQ (nd (M5 x ps o)) none (some 2) h=.ok (.tup [.str tU,.str x]) h:=fun h=>by rw[eS];exact eF _ 2 h
 have q3:∀h,cQ (nd (M5 x ps o)) none (some 3) h=.ok (.tup [.str tU,.str x,.tup (bg ps)]) h:=fun h=>by rw[eS];exact eF _ 3 h
 have ad:∀(a b:List PV) h,a.length+b.length≤10→aq (.tup a) (.tup b) h=.ok (.tup (a++b)) h:=fun a b h q=>dh a b h (Nat.le_trans q (by decide));have a0:∀a b c d e h,aq (.tup [a,b]) (.tup [c,d,e]) h=.ok (.tup [a,b,c,d,e]) h:=fun a b c d e h=>ad _ _ h (by simp);have a1:∀a b c h,aq (.tup [a,b]) (.tup [c]) h=.ok (.tup [a,b,c]) h:=fun a b c h=>ad _ _ h (by simp);have a2:∀a b c d e h,aq (.tup [a,b,c]) (.tup [d,e]) h=.ok (.tup [a,b,c,d,e]) h:=fun a b c d e h=>ad _ _ h (by simp);have bb:b≤2 * b+1:=by omega
 cases e0:decide (c % 5=0)with
 |true=>obtain⟨z,z1,z2,z3⟩:=Ed ml hm (c / 5);have dc:=vX x z ps ps o;refine⟨M5 z ps o,⟨nH z1 Vu ho,by omega,by omega,oK (by omega) (rN bb Vx)⟩,r2 _ ?_⟩;simp only[EY,aF,i0,e0,z2,z3,s2,a0,eS z ps o]
 |false=>
 cases e1:decide (c % 5=1)with
 |true=>
  obtain⟨l',g1,g2,g3⟩:=nr k MF eQ ps (by omega) ⟨y,[]⟩ (c / 5);have w3:∀h,bj (F (k+1) .i_) [.tup (bg ps),.int (c / 5),.tup [.str y]] h=.ok (.tup (bg l')) h:=fun h=>aM h (by simp[ai,PV.pure,aK]) g3
  have TF:wps l'=true:=nG (fun p hp=>by
   rcases g1 p hp with z|z
   ·exact zm Vu p z
   ·subst z;exact vd y1) (by omega)
  have dc:=vX x x ps l' o;refine⟨M5 x l' o,⟨nH hx TF ho,by omega,by omega,oK (by omega) (rN bb Vx)⟩,r2 _ ?_⟩;simp only[EY,aF,i0,i2,e0,e1,y2,w3,q2,s3,a1,a2,eS x l' o]
 |false=>
 have two:∀(hh:List (List Nat))(cc:G8),o=some (hh,cc)→c % 5=2→∃n',ND b (M5 x ps o) n'∧F (k+2) .j6 [nd (M5 x ps o),.int c,J9 ms]=.ok (nd n'):=fun hh cc eo e2=>by
  have z2:decide (c % 5=2)=true:=decide_eq_true e2;subst eo;rw[wO,acf,acf]at ho;rw[lO,acf,decide_eq_true_eq]at Vx;obtain⟨l',g1,g2,g3⟩:=nr k PV.str (fun _=>rfl) hh (by omega) y (c / 5);have w3:∀h,bj (F (k+1) .i_) [nms hh,.int (c / 5),.str y] h=.ok (nms l') h:=fun h=>aM h (by simp[ai,PV.pure,br]) g3
  have TF:Mu l'=true:=List.all_eq_true.mpr fun p hp=>by
   rcases g1 p hp with z|z
   ·exact List.all_eq_true.mp ho.1 p z
   ·subst z;exact y1
  refine⟨M5 x ps (some (l',cc)),⟨nH hx Vu (by rw[wO,TF,ho.2.2,decide_eq_true (by omega)];rfl),?_,?_,oK (by omega) (by rw[lO,decide_eq_true (by omega),bQ bb cc Vx.2];rfl)⟩,r2 _ ?_⟩
  ·rw[M5,M5,dN,dN];omega
  ·rw[M5,M5,Ma,Ma];omega
  ·have XJ:∀h,b_ (nd (M5 x ps (some (hh,cc)))) (.int 3) h=.ok (nms hh) h:=i3;have i4':∀h,b_ (nd (M5 x ps (some (hh,cc)))) (.int 4) h=.ok (.tup (f9 cc)) h:=i4;have nn:gJ (nms hh)=false:=rfl;simp only[EY,aF,i0,XJ,i4',e0,e1,z2,nn,y2,w3,q3,a2];rw[eS];rfl
 by_cases c2:c % 5=2∧o≠none
 ·obtain⟨hh,cc,eo⟩:∃hh cc,o=some (hh,cc):=by
   cases o with
   |none=>exact(c2.2 rfl).elim
   |some y=>exact⟨y.1,y.2,rfl⟩
  exact two hh cc eo c2.1
 have f2:(decide (c % 5=2)&&!gJ (o3 o))=false:=by
  cases z:decide (c % 5=2)with
  |false=>rfl
  |true=>
   cases o with
   |none=>rfl
   |some y=>exact(c2 ⟨of_decide_eq_true z,by simp⟩).elim
 cases e3:decide (c % 5=3)with
 |true=>
  have z2:decide (c % 5=2)=false:=decide_eq_false (by have:=of_decide_eq_true e3;omega);have t3:=ba (c / 5) (by decide:(0:Int)<3);have Tq:=ba (c / 5 / 3) (by decide:(0:Int)<12);obtain⟨v,v1,v2,_⟩:=gH ml hm _ Tq.1 Tq.2
  obtain⟨o',ho1,V8,ho3,ho4⟩:∃o':Option (List (List Nat)×G8),wO o'=true∧lO (2 * b+1) o'=true∧(dN (M5 x ps o')≤1∧Ma (M5 x ps o')=0)∧Np [PV.tup [.non,.non],.tup [.tup [],.tup []],.tup [.tup [.str v],.tup []]] (c / 5 % 3)=some (.tup [o3 o',o4 o']):=by
   have nn:f9 .nil= []:=by rw[f9]
   rcases(show c / 5 % 3=0∨c / 5 % 3=1∨c / 5 % 3=2 by omega)with q|q|q<;>rw[q]
   ·exact⟨none,rfl,rfl,⟨Nat.zero_le _,rfl⟩,rfl⟩
   ·exact⟨some ([],.nil),rfl,rfl,⟨by rw[M5,dN,dS];omega,by rw[M5,Ma,K4]⟩,by rw[o3,o4,nn];rfl⟩
   ·exact⟨some ([v],.nil),by rw[wO];simp[Mu,v1,wS],by rw[lO];simp[Qp],⟨by rw[M5,dN,dS];omega,by rw[M5,Ma,K4]⟩,by rw[o3,o4,nn];rfl⟩
  refine⟨M5 x ps o',⟨nH hx Vu ho1,by omega,by omega,oK (by omega) V8⟩,r2 _ ?_⟩;simp only[EY,aF,i0,e0,e1,z2,e3,v2,ho4,q3,a2,eS x ps o']
 |false=>
  obtain⟨acc,y6,y7,g1,g2,g3⟩:=mL ml hm k (nd (M5 x ps o)) c (c / 5) none ps [] 0 none none (by omega) (by simp;omega) (zm Vu) (fun p hp=>by cases hp);rw[List.length_nil,Nat.zero_add]at g1;have g3':aN (Oz 2 aaP) (cU (F (k+1))) (Od 0 (bg ps)) [some (nd (M5 x ps o)),some (.int c),some (J9 ms),some (.int (c / 5)),none,some (.ref 0),none,none] [.lst []]=.nx [some (nd (M5 x ps o)),some (.int c),some (J9 ms),some (.int (c / 5)),none,some (.ref 0),y6,y7] [.lst (bg acc)]:=g3;have dc:=vX x x ps acc o;have d0:∀xs:List PV,aj [.lst xs] (.ref 0)=.ref 0:=fun xs=>rfl;have tp:fx [.ref 0] [.lst (bg acc)]=.ok (.tup (bg acc)) [.lst (bg acc)]:=rfl;have rt:∀v:PV,∀h,aF (F (k+1)) [some (nd (M5 x ps o)),some (.int c),some (J9 ms),none,none,none,none,none] []=.rt v h→v.pure=true→F (k+2) .j6 [nd (M5 x ps o),.int c,J9 ms]=.ok v:=fun v h e hv=>rF (b:=aF (F (k+1))) (np:=3) (n:=8) (ps:=[nd (M5 x ps o),.int c,J9 ms]) e rfl (hv);refine⟨M5 x acc o,⟨nH hx (nG g2 (by omega)) ho,by omega,by omega,oK (by omega) (rN bb Vx)⟩,rt _ [.lst (bg acc)] ?_ (bz _)⟩
  cases z:decide (c % 5=2)with
  |false=>simp only[EY,aF,i0,i2,e0,e1,z,e3,g3',d0,tp,q2,s3,a1,a2,eS x acc o]
  |true=>rw[z,Bool.true_and]at f2;simp only[EY,aF,i0,i2,i3,e0,e1,z,f2,e3,g3',d0,tp,q2,s3,a1,a2,eS x acc o]
end
section
variable{ms:List (List Nat)}(ml:ms.length=12)(hm:Mu ms=true)
include ml hm
theorem AT(k b:Nat)(hb:b≤25)(UG:12≤b)(n:Nd)(hw:wN n=true)(hl:Nm b n=true)(c:Int):∃x,ND b n x∧F (k+2) .j6 [nd n,.int c,J9 ms]=.ok (nd x):=by
 have r2:∀x:Nd,aF (F (k+1)) [some (nd n),some (.int c),some (J9 ms),none,none,none,none,none] []=.rt (nd x) []→F (k+2) .j6 [nd n,.int c,J9 ms]=.ok (nd x):=fun x e=>rF (b:=aF (F (k+1))) (np:=3) (n:=8) (ps:=[nd n,.int c,J9 ms]) e rfl ((bz x));have Sg:=ba (c / 5) (by decide:(0:Int)<12);obtain⟨y,y1,y2,_⟩:=gH ml hm _ Sg.1 Sg.2
 have Yq:∀(ps:List Mz),wps ps=true→ps.length≤b→∃T9,wps T9=true∧T9.length≤2 * b+1∧∀h,bj (F (k+1) .i_) [.tup (bg ps),.int (c / 5),.tup [.str y]] h=.ok (.tup (bg T9)) h:=fun ps Vu hlp=>by
  obtain⟨l',g1,g2,g3⟩:=nr k MF eQ ps (by omega) ⟨y,[]⟩ (c / 5);refine⟨l',nG (fun p hp=>?_) (by omega),by omega,fun h=>aM h (by simp[ai,PV.pure,aK]) g3⟩;rcases g1 p hp with z|z
  ·exact zm Vu p z
  ·subst z;exact vd y1
 cases n with
 |text s=>
  have t4:=ba (c / 5) (by decide:(0:Int)<4);obtain⟨u,u1,u2,_⟩:=gH ml hm (8+c / 5 % 4) (by omega) (by omega);have Tq:=ba (c / 5 / 4) (by decide:(0:Int)<12);obtain⟨z,z1,z2,_⟩:=gH ml hm _ Tq.1 Tq.2;have t3:=ba (c / 5 / 48) (by decide:(0:Int)<3);have mu:=mul_one ⟨z,[]⟩ (c / 5 / 48 % 3) t3.1 (by omega);have mu':∀h,km (.tup [.tup [.str z]]) (.int (c / 5 / 48 % 3)) h=.ok (.tup (bg (List.replicate (c / 5 / 48 % 3).toNat ⟨z,[]⟩))) h:=mu;have lr:(List.replicate (c / 5 / 48 % 3).toNat (⟨z,[]⟩:Mz)).length≤2:=by rw[List.length_replicate];omega
  refine⟨.use u (List.replicate (c / 5 / 48 % 3).toNat ⟨z,[]⟩),⟨?_,Nat.zero_le _,acg _,decide_eq_true (by omega)⟩,r2 _ ?_⟩
  ·rw[wN,u1,nG (fun p hp=>by rw[List.eq_of_mem_replicate hp];exact vd z1) (by omega)];rfl
  ·have nu:nd (.use u (List.replicate (c / 5 / 48 % 3).toNat ⟨z,[]⟩))=.tup [.str tU,.str u,.tup (bg (List.replicate (c / 5 / 48 % 3).toNat ⟨z,[]⟩)),.non,.non]:=by rw[nd]
   simp only[EY,aF,u2,z2,mu',nu]
 |place p s=>
  rw[wN,acf]at hw
  cases e0:decide (c % 5=0)with
  |true=>
   have t4:=ba (c / 5) (by decide:(0:Int)<4);have mu:=mul_one p (c / 5 % 4) t4.1 (by omega);have lr:(List.replicate (c / 5 % 4).toNat p).length≤3:=by rw[List.length_replicate];omega
   refine⟨.body (List.replicate (c / 5 % 4).toNat p),⟨?_,Nat.zero_le _,acg _,?_⟩,r2 _ ?_⟩
   ·rw[wN];exact nG (fun q hq=>by rw[List.eq_of_mem_replicate hq];exact hw.1) (by omega)
   ·exact decide_eq_true (by omega)
   ·have nu:nd (.body (List.replicate (c / 5 % 4).toNat p))=.tup [.str tB,.tup (bg (List.replicate (c / 5 % 4).toNat p))]:=by rw[nd]
    simp only[EY,aF,e0,mu,nu]
  |false=>
   obtain⟨p',w1,w2⟩:=ja ml hm k p hw.1 (c / 5);refine⟨.place p' s,⟨by rw[wN,w1,hw.2];rfl,Nat.zero_le _,acg _,rfl⟩,r2 _ ?_⟩;have nu:nd (.place p' s)=.tup [.str tP,MF p',.str s]:=by rw[nd]
   simp only[EY,aF,e0,w2,nu]
 |loop x p ns s=>
  rw[wN,acf,acf,acf]at hw;rw[Nm]at hl;have l2:=bQ (show b≤2 * b+1 by omega) ns hl
  cases e0:decide (c % 2=0)with
  |true=>
   refine⟨.loop y p ns s,⟨by rw[wN,y1,hw.2.1,hw.2.2.1,hw.2.2.2];rfl,by rw[dN,dN];omega,by rw[Ma,Ma];exact acg _,by rw[Nm];exact l2⟩,r2 _ ?_⟩;have nu:nd (.loop y p ns s)=.tup [.str tL,.str y,MF p,.tup (f9 ns),.str s]:=by rw[nd]
   simp only[EY,aF,e0,y2,nu]
  |false=>
   obtain⟨p',w1,w2⟩:=ja ml hm k p hw.2.1 (c / 5);refine⟨.loop x p' ns s,⟨by rw[wN,hw.1,w1,hw.2.2.1,hw.2.2.2];rfl,by rw[dN,dN];omega,by rw[Ma,Ma];exact acg _,by rw[Nm];exact l2⟩,r2 _ ?_⟩;have nu:nd (.loop x p' ns s)=.tup [.str tL,.str x,MF p',.tup (f9 ns),.str s]:=by rw[nd]
   simp only[EY,aF,e0,w2,nu]
 |choice p u v=>
  rw[wN,acf,acf]at hw;rw[Nm,acf]at hl;obtain⟨p',w1,w2⟩:=ja ml hm k p hw.1 (c / 5);refine⟨.choice p' u v,⟨by rw[wN,w1,hw.2.1,hw.2.2];rfl,by rw[dN,dN];omega,by rw[Ma,Ma];exact acg _,by rw[Nm,bQ (show b≤2 * b+1 by omega) u hl.1,bQ (show b≤2 * b+1 by omega) v hl.2];rfl⟩,r2 _ ?_⟩;have nu:nd (.choice p' u v)=.tup [.str tC,MF p',.tup (f9 u),.tup (f9 v)]:=by rw[nd]
  simp only[EY,aF,w2,nu]
 |body ps=>
  rw[wN]at hw;rw[Nm,decide_eq_true_eq]at hl;obtain⟨T9,w1,w2,w3⟩:=Yq ps hw hl;refine⟨.body T9,⟨by rw[wN];exact w1,Nat.zero_le _,acg _,decide_eq_true w2⟩,r2 _ ?_⟩;have nu:nd (.body T9)=.tup [.str tB,.tup (bg T9)]:=by rw[nd]
  simp only[EY,aF,y2,w3,nu]
 |use x ps=>rw[wN,acf]at hw;rw[Nm,decide_eq_true_eq]at hl;exact um ml hm k b hb UG x ps none hw.1 hw.2 hl rfl rfl c
 |j4 x ps h cc=>rw[wN,acf,acf]at hw;rw[Nm,acf,decide_eq_true_eq]at hl;exact um ml hm k b hb UG x ps (some (h,cc)) hw.1 hw.2.1 hl.1 hw.2.2 hl.2 c
end
noncomputable def row:G8→List Nd
 |.nil=> []
 |.cons n r=>n::row r
theorem jb:∀b:G8,f9 b=(row b).map nd
 |.nil=>by rw[f9];rfl
 |.cons n r=>by rw[f9,jb r];rfl
inductive Wy:G8→List Int→Nd→Prop
 |here {b:G8} {k:Nat} {n:Nd}:(row b)[k]? =some n→Wy b [(k:Int)] n
 |loop {b c:G8} {k:Nat} {x:List Nat} {p:Mz} {t:List Nat} {w:List Int} {n:Nd}:(row b)[k]? =some (.loop x p c t)→Wy c w n→Wy b ((k:Int)::w) n
 |j4 {b c:G8} {k:Nat} {x:List Nat} {ps:List Mz} {h:List (List Nat)} {w:List Int} {n:Nd}:(row b)[k]? =some (.j4 x ps h c)→Wy c w n→Wy b ((k:Int)::w) n
 |yes {b y z:G8} {k:Nat} {p:Mz} {w:List Int} {n:Nd}:(row b)[k]? =some (.choice p y z)→Wy y w n→Wy b ((k:Int)::0::w) n
 |no {b y z:G8} {k:Nat} {p:Mz} {w:List Int} {n:Nd}:(row b)[k]? =some (.choice p y z)→Wy z w n→Wy b ((k:Int)::1::w) n
theorem Wy.ne{b:G8}{w:List Int}{n:Nd}(h:Wy b w n):1≤w.length:=by cases h<;>simp
mutual
theorem Fk(w:List Int)(ns:List (List Nat))(B:G8)(k:Nat):∀n:Nd,(row B)[k]? =some n→∀x∈Qa w ns n,∃r,x.1=w++r∧Wy B ((k:Int)::r) x.2.1
 |.loop y p b t,e=>fun x hx=>by rw[Qa]at hx;obtain⟨r,h1,h2⟩:=mf w 0 _ b b (by simp) x hx;exact⟨r,h1,.loop e h2⟩
 |.choice p y z,e=>fun x hx=>by
  rw[Qa]at hx;rcases List.mem_append.mp hx with h|h
  ·obtain⟨r,h1,h2⟩:=mf _ 0 _ y y (by simp) x h;exact⟨0::r,by rw[h1];simp,.yes e h2⟩
  ·obtain⟨r,h1,h2⟩:=mf _ 0 _ z z (by simp) x h;exact⟨1::r,by rw[h1];simp,.no e h2⟩
 |.j4 y p h b,e=>fun x hx=>by rw[Qa]at hx;obtain⟨r,h1,h2⟩:=mf w 0 _ b b (by simp) x hx;exact⟨r,h1,.j4 e h2⟩
 |.text _,_=>fun x hx=>by cases hx
 |.place _ _,_=>fun x hx=>by cases hx
 |.use _ _,_=>fun x hx=>by cases hx
 |.body _,_=>fun x hx=>by cases hx
theorem mf(w:List Int)(k:Nat)(ns:List (List Nat))(B:G8):∀b:G8,(row B).drop k=row b→∀x∈spS w k ns b,∃r,x.1=w++r∧Wy B r x.2.1
 |.nil,_=>fun x hx=>by cases hx
 |.cons n t,e=>fun x hx=>by
  have e1:(row B)[k]? =some n:=by rw[← List.head?_drop,e];rfl
  have e2:(row B).drop (k+1)=row t:=by rw[← List.drop_drop,e];rfl
  rw[spS]at hx;rcases List.mem_cons.mp hx with h|h
  ·subst h;exact⟨[(k:Int)],rfl,.here e1⟩
  rcases List.mem_append.mp h with h|h
  ·obtain⟨r,h1,h2⟩:=Fk _ _ B k n e1 x h;exact⟨(k:Int)::r,by rw[h1];simp,h2⟩
  ·exact mf w (k+1) ns B t e2 x h
end
structure SD(l:Nat)(b b':G8):Prop where
 w:wS b'=true
 d:dS b'≤dS b+1
 c:K4 b'≤K4 b
 l:Qp l b'=true
noncomputable def iw:G8→Nat→Nd→G8
 |.nil,_,_=>.nil
 |.cons _ r,0,x=>.cons x r
 |.cons n r,k+1,x=>.cons n (iw r k x)
theorem wL:∀(b:G8)(k:Nat)(x:Nd),row (iw b k x)=(row b).set k x
 |.nil,_,_=>by simp[iw,row]
 |.cons n r,0,x=>by simp[iw,row]
 |.cons n r,k+1,x=>by simp[iw,row,wL r k x]
theorem mr{l:Nat}{x n0:Nd}(wx:wN x=true)(lx:Nm l x=true)(dx:dN x≤dN n0+1)(cx:Ma x≤Ma n0):∀(b:G8)(k:Nat),(row b)[k]? =some n0→wS b=true→Qp l b=true→SD l b (iw b k x)
 |.nil,k,e,_,_=>by simp[row]at e
 |.cons n r,0,e,hw,hl=>by rw[row]at e;simp only[List.getElem?_cons_zero,Option.some.injEq]at e;subst e;rw[wS,acf]at hw;rw[Qp,acf]at hl;exact⟨by rw[iw,wS,wx,hw.2];rfl,by rw[iw,dS,dS];omega,by rw[iw,K4,K4];omega,by rw[iw,Qp,lx,hl.2];rfl⟩
 |.cons n r,k+1,e,hw,hl=>by rw[row,List.getElem?_cons_succ]at e;rw[wS,acf]at hw;rw[Qp,acf]at hl;obtain⟨a,b',c,d⟩:=mr wx lx dx cx r k e hw.2 hl.2;exact⟨by rw[iw,wS,hw.1,a];rfl,by rw[iw,dS,dS];omega,by rw[iw,K4,K4];omega,by rw[iw,Qp,hl.1,d];rfl⟩
theorem fJ{n:Nd}{l:Nat}:∀{b:G8}{k:Nat},(row b)[k]? =some n→wS b=true→Qp l b=true→wN n=true∧Nm l n=true∧Ma n≤K4 b
 |.nil,k,e,_,_=>by simp[row]at e
 |.cons m r,0,e,hw,hl=>by rw[row]at e;simp only[List.getElem?_cons_zero,Option.some.injEq]at e;subst e;rw[wS,acf]at hw;rw[Qp,acf]at hl;exact⟨hw.1,hl.1,by rw[K4];omega⟩
 |.cons m r,k+1,e,hw,hl=>by rw[row,List.getElem?_cons_succ]at e;rw[wS,acf]at hw;rw[Qp,acf]at hl;obtain⟨a,b,c⟩:=fJ e hw.2 hl.2;exact⟨a,b,by rw[K4];omega⟩
theorem CD(b:G8):(row b).length≤K4 b:=by have:=jQ b;rw[jb,List.length_map]at this;exact this
theorem og(b:G8)(k:Nat)(x:Nd)(hk:k<(row b).length)(hc:K4 b≤1000000)(h:List PO):
  cQ (.tup (f9 b)) none (some (k:Int)) h=.ok (.tup (((row b).take k).map nd)) h∧aq (.tup (((row b).take k).map nd)) (.tup [nd x]) h=.ok (.tup (((row b).take k++ [x]).map nd)) h∧
  cQ (.tup (f9 b)) (some ((k:Int)+1)) none h=.ok (.tup (((row b).drop (k+1)).map nd)) h∧aq (.tup (((row b).take k++ [x]).map nd)) (.tup (((row b).drop (k+1)).map nd)) h=.ok (.tup (f9 (iw b k x))) h:=by
 have rl:=CD b;have s3:=cV (f9 b) (k+1) h;have lz:∀n:Nat,n≤1000000→n≤sizeLine:=fun n hn=>Nat.le_trans hn (by decide);refine⟨by rw[eF,jb,List.map_take],?_,?_,?_⟩
 ·rw[dh _ _ h (lz _ (by simp;omega)),List.map_append];rfl
 ·rw[jb,← List.map_drop]at s3;rw[jb];exact s3
 ·rw[dh _ _ h (lz _ (by simp;omega)),← List.map_append,jb,wL,List.set_eq_take_append_cons_drop,if_pos hk];simp
theorem Fs(l:Nat){x n0:Nd}(wx:wN x=true)(lx:Nm l x=true)(dx:dN x≤dN n0+1)(cx:Ma x≤Ma n0){b:G8}{w:List Int}(hy:Wy b w n0):∀(K:Nat),w.length+1≤K→wS b=true→Qp l b=true→K4 b≤1000000→∃b',SD l b b'∧F K .M7 [.tup (f9 b),wy w,nd x]=.ok (.tup (f9 b')):=by
 have r2:∀(K:Nat)(b b':G8)(w:List Int)(h:List PO),gm (F K) [some (.tup (f9 b)),some (wy w),some (nd x),none,none] []=.rt (.tup (f9 b')) h→F (K+1) .M7 [.tup (f9 b),wy w,nd x]=.ok (.tup (f9 b')):=fun K b b' w h e=>rF (b:=gm (F K)) (np:=3) (n:=5) (ps:=[.tup (f9 b),wy w,nd x]) e rfl ((by rw[PV.pure];exact aY b'));have w0:∀(k:Int)(w:List Int) h,b_ (wy (k::w)) (.int 0) h=.ok (.int k) h:=fun k w h=>by unfold wy;rw[List.map_cons,ux,O3];rfl
 have w1:∀(k j:Int)(w:List Int) h,b_ (wy (k::j::w)) (.int 1) h=.ok (.int j) h:=fun k j w h=>by unfold wy;rw[List.map_cons,List.map_cons,ux,at1];rfl
 have wl:∀(w:List Int) h,bF [wy w] h=.ok (.int w.length) h:=fun w h=>by unfold wy;rw[qj,List.length_map]
 have Z_:∀(k:Int)(w:List Int) h,cQ (wy (k::w)) (some 1) none h=.ok (wy w) h:=fun k w h=>by unfold wy;exact cV _ 1 h
 have Z9:∀(k j:Int)(w:List Int) h,cQ (wy (k::j::w)) (some 2) none h=.ok (wy w) h:=fun k j w h=>by unfold wy;exact cV _ 2 h
 have WK:∀{b:G8}{k:Nat}{n:Nd},(row b)[k]? =some n→∀h,b_ (.tup (f9 b)) (.int (k:Int)) h=.ok (nd n) h:=fun{b k n} e h=>by rw[ux,dJ (v:=nd n) (by omega) (by rw[jb,Int.toNat_natCast,List.getElem?_map,e];rfl)];show Res.ok (aj h (nd n)) h=_;rw[gF]
 have kl:∀{b:G8}{k:Nat}{n:Nd},(row b)[k]? =some n→k<(row b).length:=fun e=>(List.getElem?_eq_some_iff.mp e).1;have a31:∀a b c d e h,aq (.tup [a,b,c]) (.tup [d,e]) h=.ok (.tup [a,b,c,d,e]) h:=fun a b c d e h=>dh _ _ h (by simp;exact Nat.le_trans (by decide:5≤10) (by decide));have ZW:∀a b c d e h,aq (.tup [a,b,c,d]) (.tup [e]) h=.ok (.tup [a,b,c,d,e]) h:=fun a b c d e h=>dh _ _ h (by simp;exact Nat.le_trans (by decide:5≤10) (by decide))
 induction hy with
 |@here b k n e=>
  intro K hK hw hl hc;obtain⟨K',rfl⟩:∃K',K=K'+1:=⟨K - 1,by omega⟩
  refine⟨iw b k x,mr wx lx dx cx b k e hw hl,r2 K' b _ _ [] ?_⟩;have pq:=og b k x (kl e) hc [];obtain⟨Ln,g,Uj⟩:∃Ln:Int,decide (Ln>1)=false∧∀h,bF [wy [(k:Int)]] h=.ok (.int Ln) h:=⟨_,by simp,wl [(k:Int)]⟩
  simp only[EY,gm,w0,WK e,Uj,g,pq.1,pq.2.1,pq.2.2.1,pq.2.2.2]
 |@loop b c k y p t w n e hw' ih=>
  intro K hK hw hl hc;rw[List.length_cons]at hK;obtain⟨K',rfl⟩:∃K',K=K'+1:=⟨K - 1,by omega⟩
  obtain⟨m1,m2,m3⟩:=fJ e hw hl;rw[wN,acf,acf,acf]at m1;rw[Nm]at m2;rw[Ma]at m3;obtain⟨c',sd,ec⟩:=ih dx cx K' (by omega) m1.2.2.1 m2 (by omega);have cl:∀h,bj (F K' .M7) [.tup (f9 c),wy w,nd x] h=.ok (.tup (f9 c')) h:=fun h=>aM h (by simp[ai,PV.pure,aY,bS,bz]) ec;obtain⟨Ln,g,Uj⟩:∃Ln:Int,decide (Ln>1)=true∧∀h,bF [wy ((k:Int)::w)] h=.ok (.int Ln) h:=⟨_,decide_eq_true (by have:=hw'.ne;rw[List.length_cons];omega),wl ((k:Int)::w)⟩
  have pq:=og b k (.loop y p c' t) (kl e) hc [];refine⟨iw b k (.loop y p c' t),mr (n0:=.loop y p c t) (by rw[wN,m1.1,m1.2.1,sd.w,m1.2.2.2];rfl) (by rw[Nm];exact sd.l) (by rw[dN,dN];have:=sd.d;omega) (by rw[Ma,Ma];exact sd.c) b k e hw hl,r2 K' b _ _ [] ?_⟩;have q3:∀h,cQ (nd (.loop y p c t)) none (some 3) h=.ok (.tup [.str tL,.str y,MF p]) h:=fun h=>by rw[nd];exact eF _ 3 h
  have nu:nd (.loop y p c' t)=.tup [.str tL,.str y,MF p,.tup (f9 c'),.str t]:=by rw[nd]
  have p2:=pq.2.1;rw[nu]at p2;simp only[EY,gm,w0,WK e,Uj,g,q3,Z_,cl,a31,pq.1,p2,pq.2.2.1,pq.2.2.2]
 |@j4 b c k y ps hh w n e hw' ih=>
  intro K hK hw hl hc;rw[List.length_cons]at hK;obtain⟨K',rfl⟩:∃K',K=K'+1:=⟨K - 1,by omega⟩
  obtain⟨m1,m2,m3⟩:=fJ e hw hl;rw[wN,acf,acf,acf,acf]at m1;rw[Nm,acf,acf]at m2;rw[Ma]at m3;obtain⟨c',sd,ec⟩:=ih dx cx K' (by omega) m1.2.2.2.2 m2.2.2 (by omega);have cl:∀h,bj (F K' .M7) [.tup (f9 c),wy w,nd x] h=.ok (.tup (f9 c')) h:=fun h=>aM h (by simp[ai,PV.pure,aY,bS,bz]) ec;obtain⟨Ln,g,Uj⟩:∃Ln:Int,decide (Ln>1)=true∧∀h,bF [wy ((k:Int)::w)] h=.ok (.int Ln) h:=⟨_,decide_eq_true (by have:=hw'.ne;rw[List.length_cons];omega),wl ((k:Int)::w)⟩
  have pq:=og b k (.j4 y ps hh c') (kl e) hc [];refine⟨iw b k (.j4 y ps hh c'),mr (n0:=.j4 y ps hh c) (by rw[wN,m1.1,m1.2.1,m1.2.2.1,m1.2.2.2.1,sd.w];rfl) (by rw[Nm,m2.1,m2.2.1,sd.l];rfl) (by rw[dN,dN];have:=sd.d;omega) (by rw[Ma,Ma];exact sd.c) b k e hw hl,r2 K' b _ _ [] ?_⟩;have q4:∀h,cQ (nd (.j4 y ps hh c)) none (some 4) h=.ok (.tup [.str tU,.str y,.tup (bg ps),nms hh]) h:=fun h=>by rw[nd];exact eF _ 4 h
  have nu:nd (.j4 y ps hh c')=.tup [.str tU,.str y,.tup (bg ps),nms hh,.tup (f9 c')]:=by rw[nd]
  have p2:=pq.2.1;rw[nu]at p2;simp only[EY,gm,w0,WK e,Uj,g,q4,Z_,cl,ZW,pq.1,p2,pq.2.2.1,pq.2.2.2]
 |@yes b u v k p w n e hw' ih=>
  intro K hK hw hl hc;rw[List.length_cons,List.length_cons]at hK;obtain⟨K',rfl⟩:∃K',K=K'+1:=⟨K - 1,by omega⟩
  obtain⟨m1,m2,m3⟩:=fJ e hw hl;rw[wN,acf,acf]at m1;rw[Nm,acf]at m2;rw[Ma]at m3;obtain⟨c',sd,ec⟩:=ih dx cx K' (by omega) m1.2.1 m2.1 (by omega);have cl:∀h,bj (F K' .M7) [.tup (f9 u),wy w,nd x] h=.ok (.tup (f9 c')) h:=fun h=>aM h (by simp[ai,PV.pure,aY,bS,bz]) ec;obtain⟨Ln,g,Uj⟩:∃Ln:Int,decide (Ln>1)=true∧∀h,bF [wy ((k:Int)::0::w)] h=.ok (.int Ln) h:=⟨_,decide_eq_true (by rw[List.length_cons,List.length_cons];omega),wl ((k:Int)::0::w)⟩
  have pq:=og b k (.choice p c' v) (kl e) hc [.lst [.tup (f9 c'),.tup (f9 v)]];refine⟨iw b k (.choice p c' v),mr (n0:=.choice p u v) (by rw[wN,m1.1,sd.w,m1.2.2];rfl) (by rw[Nm,sd.l,m2.2];rfl) (by rw[dN,dN];have:=sd.d;omega) (by rw[Ma,Ma];have:=sd.c;omega) b k e hw hl,r2 K' b _ _ [.lst [.tup (f9 c'),.tup (f9 v)]] ?_⟩;have nu:nd (.choice p c' v)=.tup [.str tC,MF p,.tup (f9 c'),.tup (f9 v)]:=by rw[nd]
  have p2:=pq.2.1;rw[nu]at p2;have d0:∀a b:PV,aj [.lst [a,b]] (.ref 0)=.ref 0:=fun _ _=>rfl;have j0:∀a b:List PV,b_ (.ref 0) (.int 0) [.lst [.tup a,.tup b]]=.ok (.tup a) [.lst [.tup a,.tup b]]:=fun _ _=>rfl;have j1:∀a b:List PV,b_ (.ref 0) (.int 1) [.lst [.tup a,.tup b]]=.ok (.tup b) [.lst [.tup a,.tup b]]:=fun _ _=>rfl;have si:∀(a b c:PV) ρ,gB c (.ref 0) (.int 0) ρ [.lst [a,b]]=.nx ρ [.lst [c,b]]:=fun _ _ _ _=>rfl;simp only[EY,gm,w0,w1,WK e,Uj,g,d0,j0,j1,si,Z9,cl,pq.1,p2,pq.2.2.1,pq.2.2.2]
 |@no b u v k p w n e hw' ih=>
  intro K hK hw hl hc;rw[List.length_cons,List.length_cons]at hK;obtain⟨K',rfl⟩:∃K',K=K'+1:=⟨K - 1,by omega⟩
  obtain⟨m1,m2,m3⟩:=fJ e hw hl;rw[wN,acf,acf]at m1;rw[Nm,acf]at m2;rw[Ma]at m3;obtain⟨c',sd,ec⟩:=ih dx cx K' (by omega) m1.2.2 m2.2 (by omega);have cl:∀h,bj (F K' .M7) [.tup (f9 v),wy w,nd x] h=.ok (.tup (f9 c')) h:=fun h=>aM h (by simp[ai,PV.pure,aY,bS,bz]) ec;obtain⟨Ln,g,Uj⟩:∃Ln:Int,decide (Ln>1)=true∧∀h,bF [wy ((k:Int)::1::w)] h=.ok (.int Ln) h:=⟨_,decide_eq_true (by rw[List.length_cons,List.length_cons];omega),wl ((k:Int)::1::w)⟩
  have pq:=og b k (.choice p u c') (kl e) hc [.lst [.tup (f9 u),.tup (f9 c')]];refine⟨iw b k (.choice p u c'),mr (n0:=.choice p u v) (by rw[wN,m1.1,m1.2.1,sd.w];rfl) (by rw[Nm,m2.1,sd.l];rfl) (by rw[dN,dN];have:=sd.d;omega) (by rw[Ma,Ma];have:=sd.c;omega) b k e hw hl,r2 K' b _ _ [.lst [.tup (f9 u),.tup (f9 c')]] ?_⟩;have nu:nd (.choice p u c')=.tup [.str tC,MF p,.tup (f9 u),.tup (f9 c')]:=by rw[nd]
  have p2:=pq.2.1;rw[nu]at p2;have d0:∀a b:PV,aj [.lst [a,b]] (.ref 0)=.ref 0:=fun _ _=>rfl;have j0:∀a b:List PV,b_ (.ref 0) (.int 0) [.lst [.tup a,.tup b]]=.ok (.tup a) [.lst [.tup a,.tup b]]:=fun _ _=>rfl;have j1:∀a b:List PV,b_ (.ref 0) (.int 1) [.lst [.tup a,.tup b]]=.ok (.tup b) [.lst [.tup a,.tup b]]:=fun _ _=>rfl;have si:∀(a b c:PV) ρ,gB c (.ref 0) (.int 1) ρ [.lst [a,b]]=.nx ρ [.lst [a,c]]:=fun _ _ _ _=>rfl;simp only[EY,gm,w0,w1,WK e,Uj,g,d0,j0,j1,si,Z9,cl,pq.1,p2,pq.2.2.1,pq.2.2.2]
structure PI(d b:Nat)(q:Pc):Prop where
 w:wC q=true
 dd:dS q.b≤d
 c:K4 q.b≤10000
 l:Qp b q.b=true
 n:q.ns.length≤b
def Rx(k:Nat):List Pc→List TY
 |[]=>[]
 |q::r=>spS [(k:Int)] 0 q.ns q.b++Rx (k+1) r
theorem xO:∀(r:List Pc)(k:Nat),(∀q∈r,K4 q.b≤10000)→(Rx k r).length≤10000 * r.length
 |[],_,_=>Nat.zero_le _
 |q::r,k,h=>by have:=xO r (k+1) fun z hz=>h z (List.mem_cons_of_mem _ hz);have:=h q List.mem_cons_self;rw[Rx,List.length_append,et,List.length_cons];omega
theorem uU(K:Nat)(hK:22≤K)(a:PV):∀(r:List Pc)(k:Nat)(acc:List TY)(x2 x3:Option PV),(∀q∈r,wC q=true∧K4 q.b≤10000)→acc.length+10000 * r.length≤1000000→∃y2 y3,
  aN aat (cF (F K)) (Od k (r.map pc)) [some a,some (.lst (acc.map Mf)),x2,x3] []=.nx [some a,some (.lst ((acc++Rx k r).map Mf)),y2,y3] []
 |[],k,acc,x2,x3,_,_=>⟨x2,x3,by rw[List.map_nil,Od,aN,Rx,List.append_nil]⟩
 |q::r,k,acc,x2,x3,hr,hl=>by
  rw[List.length_cons]at hl;obtain⟨wq,cq⟩:=hr q List.mem_cons_self;simp only[wC,acf,decide_eq_true_eq]at wq;obtain⟨w1,w2,w3,w4,w5⟩:=wq;have so:=tM (dS q.b) q.b [(k:Int)] q.ns K (acg _) (by omega) (by simp;omega) (by omega) w4 (by omega);have cs:∀h,bj (F K .E_) [.tup (f9 q.b),.tup [.int k],nms q.ns] h=.ok (.lst ((spS [(k:Int)] 0 q.ns q.b).map Mf)) h:=fun h=>aM h (by simp[ai,PV.pure,aY q.b,br]) so;have ls:=et [(k:Int)] 0 q.ns q.b
  have ad:∀h,aq (.lst (acc.map Mf)) (.lst ((spS [(k:Int)] 0 q.ns q.b).map Mf)) h=.ok (.lst ((acc++spS [(k:Int)] 0 q.ns q.b).map Mf)) h:=fun h=>by rw[sQ _ _ h (by rw[List.length_map,List.length_map];omega),List.map_append]
  obtain⟨y2,y3,ih⟩:=uU K hK a r (k+1) (acc++spS [(k:Int)] 0 q.ns q.b) (some (.int k)) (some (pc q)) (fun z hz=>hr z (List.mem_cons_of_mem _ hz)) (by rw[List.length_append];omega);refine⟨y2,y3,?_⟩
  have one:cF (F K) [some a,some (.lst (acc.map Mf)),some (.int k),some (pc q)] []=.nx [some a,some (.lst ((acc++spS [(k:Int)] 0 q.ns q.b).map Mf)),some (.int k),some (pc q)] []:=by simp only[EY,cF,cs,ad]
  rw[List.map_cons,Od,aN];show(match cF (F K) [some a,some (.lst (acc.map Mf)),some (.int k),some (pc q)] []with|.nx ρ2 h2=>_|.ct ρ2 h2=>_|.bk ρ2 h2=>_|.rt v h2=>_|.exc v h2=>_|.bad=>_)=_;rw[one,Rx,← List.append_assoc];exact ih
theorem GR(K:Nat)(hK:22≤K)(B:List Pc)(hB:∀q∈B,wC q=true∧K4 q.b≤10000)(lB:B.length≤8):F (K+1) .G5 [bk B]=.ok (.lst ((Rx 0 B).map Mf)):=by
 obtain⟨y2,y3,e⟩:=uU K hK (bk B) B 0 [] none none hB (by simp;omega)
 have r2:F (K+1) .G5 [bk B]=match fO (F K) [some (bk B),none,none,none] []with
   |.nx _ _=>.ok .non
   |.rt v h=>cr v h
   |_=>.bad:=rfl
 have e':gD aby aat (cF (F K)) [some (bk B),some (.lst []),none,none] []=.nx [some (bk B),some (.lst ((Rx 0 B).map Mf)),y2,y3] []:=e;have s0:aO 1 aaU [some (bk B),none,none,none] []=.nx [some (bk B),some (.lst []),none,none] []:=rfl;rw[r2];unfold fO;rw[cj,s0];dsimp only;rw[cj,e'];show cr (.lst ((Rx 0 B).map Mf)) []=_;exact bD (by rw[PV.pure];exact qO _)
theorem xN:∀(r E:List Pc),(∀q∈r,wC q=true)→∀x∈Rx E.length r,∃(i:Nat)(q:Pc)(rr:List Int),(E++r)[i]? =some q∧x.1=(i:Int)::rr∧Wy q.b rr x.2.1∧Mu x.2.2=true
 |[],_,_,x,hx=>by cases hx
 |q::r,E,hw,x,hx=>by
  rw[Rx]at hx;rcases List.mem_append.mp hx with h|h
  ·obtain⟨rr,h1,h2⟩:=mf [(E.length:Int)] 0 q.ns q.b q.b (by simp) x h;have wq:=hw q List.mem_cons_self;simp only[wC,acf,decide_eq_true_eq]at wq;exact⟨E.length,q,rr,by simp,h1,h2,(kD _ _ _ wq.2.1 q.b wq.2.2.2.1 x h).2⟩
  ·obtain⟨i,p,rr,g1,g2,g3,g4⟩:=xN r (E++ [q]) (fun z hz=>hw z (List.mem_cons_of_mem _ hz)) x (by simpa using h);exact⟨i,p,rr,by simpa using g1,g2,g3,g4⟩
theorem jN{n:Nd}:∀{b:G8}{k:Nat},(row b)[k]? =some n→dN n≤dS b
 |.nil,k,e=>by simp[row]at e
 |.cons m r,0,e=>by rw[row]at e;simp only[List.getElem?_cons_zero,Option.some.injEq]at e;subst e;rw[dS];omega
 |.cons m r,k+1,e=>by rw[row,List.getElem?_cons_succ]at e;have:=jN e;rw[dS];omega
theorem Wy.mem{l:Nat}{b:G8}{w:List Int}{n:Nd}(h:Wy b w n):wS b=true→Qp l b=true→wN n=true∧Nm l n=true∧dN n≤dS b∧w.length≤2 * dS b+1:=by
 induction h with
 |here e=>intro hw hl;obtain⟨a,c,_⟩:=fJ e hw hl;exact⟨a,c,jN e,by simp⟩
 |loop e _ ih=>intro hw hl;obtain⟨a,c,_⟩:=fJ e hw hl;rw[wN,acf,acf,acf]at a;rw[Nm]at c;obtain⟨i1,i2,i3,i4⟩:=ih a.2.2.1 c;have:=jN e;rw[dN]at this;exact⟨i1,i2,by omega,by rw[List.length_cons];omega⟩
 |j4 e _ ih=>intro hw hl;obtain⟨a,c,_⟩:=fJ e hw hl;rw[wN,acf,acf,acf,acf]at a;rw[Nm,acf,acf]at c;obtain⟨i1,i2,i3,i4⟩:=ih a.2.2.2.2 c.2.2;have:=jN e;rw[dN]at this;exact⟨i1,i2,by omega,by rw[List.length_cons];omega⟩
 |yes e _ ih=>intro hw hl;obtain⟨a,c,_⟩:=fJ e hw hl;rw[wN,acf,acf]at a;rw[Nm,acf]at c;obtain⟨i1,i2,i3,i4⟩:=ih a.2.1 c.1;have:=jN e;rw[dN]at this;exact⟨i1,i2,by omega,by rw[List.length_cons,List.length_cons];omega⟩
 |no e _ ih=>intro hw hl;obtain⟨a,c,_⟩:=fJ e hw hl;rw[wN,acf,acf]at a;rw[Nm,acf]at c;obtain⟨i1,i2,i3,i4⟩:=ih a.2.2 c.2;have:=jN e;rw[dN]at this;exact⟨i1,i2,by omega,by rw[List.length_cons,List.length_cons];omega⟩
theorem CO(B:List Pc)(k:Nat)(q:Pc)(hk:k<B.length)(lB:B.length≤8)(h:List PO):
  cQ (bk B) none (some (k:Int)) h=.ok (.tup ((B.take k).map pc)) h∧aq (.tup ((B.take k).map pc)) (.tup [pc q]) h=.ok (.tup ((B.take k++ [q]).map pc)) h∧
  cQ (bk B) (some ((k:Int)+1)) none h=.ok (.tup ((B.drop (k+1)).map pc)) h∧aq (.tup ((B.take k++ [q]).map pc)) (.tup ((B.drop (k+1)).map pc)) h=.ok (bk (B.set k q)) h:=by
 have s3:=cV (B.map pc) (k+1) h;have lz:∀n:Nat,n≤1000→n≤sizeLine:=fun n hn=>Nat.le_trans hn (by decide);refine⟨by unfold bk;rw[eF,List.map_take],?_,?_,?_⟩
 ·rw[dh _ _ h (lz _ (by simp;omega)),List.map_append];rfl
 ·rw[← List.map_drop]at s3;exact s3
 ·rw[dh _ _ h (lz _ (by simp;omega)),← List.map_append,List.set_eq_take_append_cons_drop,if_pos hk];unfold bk;simp
theorem PI.set{d b d' b':Nat}{B:List Pc}{k:Nat}{q:Pc}(hB:∀q∈B,PI d b q)(hd:d≤d')(hb:b≤b')(hq:PI d' b' q):∀p∈B.set k q,PI d' b' p:=fun p hp=>by
 rcases List.mem_or_eq_of_mem_set hp with h|h
 ·have:=hB p h;exact⟨this.w,Nat.le_trans this.dd hd,this.c,bQ hb _ this.l,Nat.le_trans this.n hb⟩
 ·subst h;exact hq
theorem Ar{ms:List (List Nat)}(ml:ms.length=12)(hm:Mu ms=true)(k:Nat){d b:Nat}(hb:b≤25)(UG:12≤b)(B:List Pc)(lB:B.length≤8)(l1:1≤B.length)(hB:∀q∈B,PI d b q)(c:Int):
  ∃B',B'.length=B.length∧(∀q∈B',PI d (2 * b+1) q)∧F (k+2) .k_ [bk B,.int c,J9 ms]=.ok (bk B'):=by
 have r2:∀B',bJ (F (k+1)) [some (bk B),some (.int c),some (J9 ms),none,none,none,none] []=.rt (bk B') []→F (k+2) .k_ [bk B,.int c,J9 ms]=.ok (bk B'):=fun B' e=>rF (b:=bJ (F (k+1))) (np:=3) (n:=7) (ps:=[bk B,.int c,J9 ms]) e rfl ((cC B'));have Rr:(0:Int)<(B.length:Int):=by omega
 have t:=ba c Rr;obtain⟨i,hi⟩:∃i:Nat,c % (B.length:Int)=(i:Int):=⟨(c % (B.length:Int)).toNat,by omega⟩
 have hk:i<B.length:=by omega
 have pz:decide ((0:Int)<(B.length:Int))=true:=decide_eq_true Rr;have Ws:decide ((0:Int)<(B.length:Int)∧(B.length:Int)<1073741824)=true:=decide_eq_true ⟨Rr,by omega⟩;obtain⟨q,hq⟩:∃q,B[i]? =some q:=⟨B[i],List.getElem?_eq_getElem hk⟩
 have pq:=hB q (List.mem_of_getElem? hq);have wq:=pq.w;simp only[wC,acf,decide_eq_true_eq]at wq;obtain⟨w1,w2,w3,w4,w5⟩:=wq;have ib:=xr hq;obtain⟨more,hmo⟩:∃more,c / (B.length:Int)=more:=⟨_,rfl⟩
 have ad:∀(a b:List PV) h,a.length+b.length≤10→aq (.tup a) (.tup b) h=.ok (.tup (a++b)) h:=fun a b h q=>dh a b h (Nat.le_trans q (by decide));have a0:∀a b c d e h,aq (.tup [a,b]) (.tup [c,d,e]) h=.ok (.tup [a,b,c,d,e]) h:=fun a b c d e h=>ad _ _ h (by simp);have a1:∀a b c h,aq (.tup [a,b]) (.tup [c]) h=.ok (.tup [a,b,c]) h:=fun a b c h=>ad _ _ h (by simp);have a2:∀a b c d e h,aq (.tup [a,b,c]) (.tup [d,e]) h=.ok (.tup [a,b,c,d,e]) h:=fun a b c d e h=>ad _ _ h (by simp);have s2:∀h,cQ (pc q) (some 2) none h=.ok (.tup [nms q.ns,G_ q.m,.tup (f9 q.b)]) h:=fun h=>cV _ 2 h;have s3:∀h,cQ (pc q) (some 3) none h=.ok (.tup [G_ q.m,.tup (f9 q.b)]) h:=fun h=>cV _ 3 h;have q2:∀h,cQ (pc q) none (some 2) h=.ok (.tup [.str tI,.str q.n]) h:=fun h=>eF _ 2 h;have q3:∀h,cQ (pc q) none (some 3) h=.ok (.tup [.str tI,.str q.n,nms q.ns]) h:=fun h=>eF _ 3 h;have bb:b≤2 * b+1:=by omega
 have fin:∀q':Pc,PI d (2 * b+1) q'→bJ (F (k+1)) [some (bk B),some (.int c),some (J9 ms),none,none,none,none] []=.rt (bk (B.set i q')) []→∃B',B'.length=B.length∧(∀q∈B',PI d (2 * b+1) q)∧F (k+2) .k_ [bk B,.int c,J9 ms]=.ok (bk B'):=fun q' hq' e=>⟨B.set i q',by simp,PI.set hB (acg _) bb hq',r2 _ e⟩
 cases e0:decide (more % 3=0)with
 |true=>have t4:=ba (more / 3) (by decide:(0:Int)<4);obtain⟨y,y1,y2,_⟩:=gH ml hm (8+more / 3 % 4) (by omega) (by omega);refine fin ⟨y,q.ns,q.m,q.b⟩ ⟨by simp only[wC,y1,w2,w3,w4,w5,decide_true,Bool.and_self],pq.dd,pq.c,bQ bb _ pq.l,Nat.le_trans pq.n bb⟩ ?_;have pp:=CO B i ⟨y,q.ns,q.m,q.b⟩ hk lB [];have p2:aq (.tup ((B.take i).map pc)) (.tup [.tup [.str tI,.str y,nms q.ns,G_ q.m,.tup (f9 q.b)]]) []=.ok (.tup ((B.take i++ [(⟨y,q.ns,q.m,q.b⟩:Pc)]).map pc)) []:=pp.2.1;simp -implicitDefEqProofs only [EY,bJ,pz,Ws,hi,hmo,ib,e0,y2,s2,a0,pp.1,p2,pp.2.2.1,pp.2.2.2]
 |false=>
 cases e1:decide (more % 3=1)with
 |true=>
  have Sg:=ba (more / 3) (by decide:(0:Int)<12);obtain⟨y,y1,y2,_⟩:=gH ml hm _ Sg.1 Sg.2;have hln:=pq.n;obtain⟨l',g1,g2,g3⟩:=nr k PV.str (fun _=>rfl) q.ns (by omega) y (more / 3);have w3':∀h,bj (F (k+1) .i_) [nms q.ns,.int (more / 3),.str y] h=.ok (nms l') h:=fun h=>aM h (by simp[ai,PV.pure,br]) g3
  have TF:Mu l'=true:=List.all_eq_true.mpr fun p hp=>by
   rcases g1 p hp with z|z
   ·exact List.all_eq_true.mp w2 p z
   ·subst z;exact y1
  refine fin ⟨q.n,l',q.m,q.b⟩ ⟨by simp only[wC,w1,TF,w4,w5,decide_true,Bool.and_self,Bool.true_and,Bool.and_true,decide_eq_true_eq];omega,pq.dd,pq.c,bQ bb _ pq.l,by show l'.length≤_;omega⟩ ?_;have pp:=CO B i ⟨q.n,l',q.m,q.b⟩ hk lB [];have p2:aq (.tup ((B.take i).map pc)) (.tup [.tup [.str tI,.str q.n,nms l',G_ q.m,.tup (f9 q.b)]]) []=.ok (.tup ((B.take i++ [(⟨q.n,l',q.m,q.b⟩:Pc)]).map pc)) []:=pp.2.1;simp -implicitDefEqProofs only [EY,bJ,pz,Ws,hi,hmo,ib,e0,e1,y2,w3',q2,s3,a1,a2,pp.1,p2,pp.2.2.1,pp.2.2.2]
 |false=>
  have t5:=ba (more / 3) (by decide:(0:Int)<5)
  obtain⟨m,em⟩:∃m:Option Int,Np [PV.non,.int 0,.int 1,.int 2,.int 3] (more / 3 % 5)=some (G_ m):=by
   rcases(show more / 3 % 5=0∨more / 3 % 5=1∨more / 3 % 5=2∨more / 3 % 5=3∨more / 3 % 5=4 by omega)with q|q|q|q|q<;>rw[q]
   ·exact⟨none,rfl⟩
   ·exact⟨some 0,rfl⟩
   ·exact⟨some 1,rfl⟩
   ·exact⟨some 2,rfl⟩
   ·exact⟨some 3,rfl⟩
  refine fin ⟨q.n,q.ns,m,q.b⟩ ⟨by simp only[wC,w1,w2,w3,w4,w5,decide_true,Bool.and_self],pq.dd,pq.c,bQ bb _ pq.l,Nat.le_trans pq.n bb⟩ ?_;have pp:=CO B i ⟨q.n,q.ns,m,q.b⟩ hk lB [];have p2:aq (.tup ((B.take i).map pc)) (.tup [.tup [.str tI,.str q.n,nms q.ns,G_ m,.tup (f9 q.b)]]) []=.ok (.tup ((B.take i++ [(⟨q.n,q.ns,m,q.b⟩:Pc)]).map pc)) []:=pp.2.1;simp -implicitDefEqProofs only [EY,bJ,pz,Ws,hi,hmo,ib,e0,e1,em,q3,a2,pp.1,p2,pp.2.2.1,pp.2.2.2]
theorem oR{d:Nat}:∀l:List Int,fds d (l.map PV.int)
 |[]=>bK d
 |a::r=>aB (mG d a) (oR r)
theorem xy{l:List TY}(h:∀x∈l,wN x.2.1=true∧dN x.2.1≤20∧Mu x.2.2=true):fds 59 (l.map Mf):=by
 induction l with
 |nil=>exact bK _
 |cons a r ih=>obtain⟨h1,h2,h3⟩:=h a List.mem_cons_self;exact aB (cE (d:=58) (aB (bA (cE (d:=0) (oR a.1)) (by decide)) (aB (bA (BC h1) (by omega)) (aB (bA (sh (d:=0) h3) (by decide)) (bK _))))) (ih fun x hx=>h x (List.mem_cons_of_mem _ hx))
noncomputable def jo:Nd→Bool
 |.j4 _ _ h _=>decide ((h.length:Int)>1)
 |_=>false
theorem Fb(k:Nat)(x:TY)(h:List PO):bC (F k) [some (Mf x)] h=.ok (jo x.2.1) h:=by
 obtain⟨w,n,ns⟩:=x;have ds:aj h (Mf (w,n,ns))=Mf (w,n,ns):=rfl;have i1:b_ (Mf (w,n,ns)) (.int 1) h=.ok (nd n) h:=by show Res.ok (aj h (nd n)) h=_;rw[gF]
 cases n with
 |text s=>simp only[EY,bC,ds,i1,jo]
 |place p s=>simp only[EY,bC,ds,i1,jo]
 |loop y p b s=>simp only[EY,bC,ds,i1,jo]
 |choice p y z=>simp only[EY,bC,ds,i1,jo]
 |body ps=>simp only[EY,bC,ds,i1,jo]
 |use y ps=>
  have i3:b_ (nd (.use y ps)) (.int 3) h=.ok .non h:=by rw[nd];rfl
  have tn:kA h .non=some false:=rfl;simp only[EY,bC,ds,i1,i3,tn,jo];rfl
 |j4 y ps hh c=>
  have i3:b_ (nd (.j4 y ps hh c)) (.int 3) h=.ok (nms hh) h:=by rw[nd];rfl
  have tn:kA h (nms hh)=some (!hh.isEmpty):=by show some (!(hh.map PV.str).isEmpty)=_;rw[List.isEmpty_map]
  have ln:bF [nms hh] h=.ok (.int hh.length) h:=by unfold nms;rw[qj,List.length_map]
  cases hh with
  |nil=>simp only[EY,bC,ds,i1,i3,tn,List.isEmpty_nil,jo]
  |cons a r=>
   have e:(!(a::r).isEmpty)=true:=rfl;rw[e]at tn;obtain⟨Ln,hL,ln'⟩:∃Ln:Int,Ln=(((a::r).length:Nat):Int)∧bF [nms (a::r)] h=.ok (.int Ln) h:=⟨_,rfl,ln⟩
   simp only[EY,bC,ds,i1,i3,tn,ln',jo];rw[hL];rfl
structure Z7(B:List Pc)(l:Nat)(i:Nat)(q:Pc)(rr:List Int)(n0 x:Nd):Prop where
 hq:B[i]? =some q
 hy:Wy q.b rr n0
 hw:wN x=true
 hd:dN x≤dN n0+1
 hc:Ma x≤Ma n0
 hl:Nm l x=true
theorem vY{ms:List (List Nat)}(ml:ms.length=12)(hm:Mu ms=true)(K:Nat)(hK:42≤K){d b:Nat}(hd:d≤5)(hb:b≤25)(UG:12≤b)(B:List Pc)(lB:B.length≤8)(l1:1≤B.length)(hB:∀q∈B,PI d b q)(c:Int):
  ∃B',B'.length=B.length∧(∀q∈B',PI (d+1) (2 * b+1) q)∧F (K+1) .K_ [bk B,.int c,J9 ms]=.ok (bk B'):=by
 obtain⟨K',rfl⟩:∃K',K=K'+2:=⟨K - 2,by omega⟩
 have bb:b≤2 * b+1:=by omega
 have r2:∀B' h,cZ (F (K'+2)) [some (bk B),some (.int c),some (J9 ms),none,none,none,none,none,none,none,none,none] []=.rt (bk B') h→F (K'+2+1) .K_ [bk B,.int c,J9 ms]=.ok (bk B'):=fun B' h e=>rF (b:=cZ (F (K'+2))) (np:=3) (n:=12) (ps:=[bk B,.int c,J9 ms]) e rfl ((cC B'));have ae:=GR (K'+1) (by omega) B (fun q hq=>⟨(hB q hq).w,(hB q hq).c⟩) lB;have ca:∀h,bj (F (K'+2) .G5) [bk B] h=.ok (.lst ((Rx 0 B).map Mf)) h:=fun h=>aM h (by rw[ai,cC];rfl) ae;have al:=xO B 0 fun q hq=>(hB q hq).c;have am:∀x∈Rx 0 B,∃(i:Nat)(q:Pc)(rr:List Int),B[i]? =some q∧x.1=(i:Int)::rr∧Wy q.b rr x.2.1∧Mu x.2.2=true:=fun x hx=>xN B [] (fun q hq=>(hB q hq).w) x hx
 have aw:∀x∈Rx 0 B,wN x.2.1=true∧dN x.2.1≤20∧Mu x.2.2=true∧Nm b x.2.1=true:=fun x hx=>by obtain⟨i,q,rr,g1,g2,g3,g4⟩:=am x hx;have pq:=hB q (List.mem_of_getElem? g1);have wq:=pq.w;simp only[wC,acf,decide_eq_true_eq]at wq;obtain⟨m1,m2,m3,m4⟩:=g3.mem wq.2.2.2.1 pq.l;have:=pq.dd;exact⟨m1,by omega,g4,m2⟩
 obtain⟨P',pl1,pl2,pl3⟩:=Ar ml hm K' hb UG B lB l1 hB (c / 4);have cp:∀h,bj (F (K'+2) .k_) [bk B,.int (c / 4),J9 ms] h=.ok (bk P') h:=fun h=>aM h (by simp[ai,cC,PV.pure,gG]) pl3
 have Wt:∃B',B'.length=B.length∧(∀q∈B',PI (d+1) (2 * b+1) q)∧B'=P':=⟨P',pl1,fun q hq=>(by have:=pl2 q hq;exact⟨this.w,Nat.le_trans this.dd (Nat.le_succ _),this.c,this.l,this.n⟩),rfl⟩
 have en:∀h,G9 (.lst ((Rx 0 B).map Mf)) (.lst []) h=.ok (.bl ((Rx 0 B).map Mf).isEmpty) h:=fun h=>su (xy fun x hx=>⟨(aw x hx).1,(aw x hx).2.1,(aw x hx).2.2.1⟩) h
 cases e0:decide (c % 4=0)with
 |true=>obtain⟨B',b1,b2,rfl⟩:=Wt;exact⟨B',b1,b2,r2 B' [] (by simp -implicitDefEqProofs only [EY,cZ,ca,e0,cp])⟩
 |false=>
 generalize Rx 0 B=A at ca al am aw en
 cases A with
 |nil=>obtain⟨B',b1,b2,rfl⟩:=Wt;simp only[List.map_nil,List.isEmpty_nil]at ca en;exact⟨B',b1,b2,r2 B' [] (by simp -implicitDefEqProofs only [EY,cZ,ca,e0,en,cp])⟩
 |cons a0 ar=>
  have ez:((a0::ar).map Mf).isEmpty=false:=rfl;rw[ez]at en;generalize hA:a0::ar=A at ca al am aw en;have lA:0<A.length:=by rw[← hA];simp
  have Rr:(0:Int)<(A.length:Int):=by omega
  have pz:decide ((0:Int)<(A.length:Int))=true:=decide_eq_true Rr;have Ws:decide ((0:Int)<(A.length:Int)∧(A.length:Int)<1073741824)=true:=decide_eq_true ⟨Rr,by omega⟩;have lnA:∀h,bF [.lst (A.map Mf)] h=.ok (.int A.length) h:=fun h=>by rw[Be,List.length_map]
  have pick:∀(L:List TY)(i:Int),0≤i→i<(L.length:Int)→∃x∈L,∀h,b_ (.lst (L.map Mf)) (.int i) h=.ok (Mf x) h:=fun L i h0 h1=>by
   have hi:i.toNat<L.length:=by omega
   refine⟨L[i.toNat],List.getElem_mem hi,fun h=>?_⟩;rw[uy,dJ (v:=Mf L[i.toNat]) h0 (by rw[List.getElem?_map,List.getElem?_eq_getElem hi];rfl)];rfl
  have t:=ba (c / 4) Rr;obtain⟨x,hx,ix⟩:=pick A _ t.1 t.2;obtain⟨w1,w2,w3,w4⟩:=aw x hx;obtain⟨i,q,rr,g1,g2,g3,g4⟩:=am x hx;obtain⟨f,nf,ff⟩:=AT ml hm K' b hb UG x.2.1 w1 w4 (c / 4 / (A.length:Int));have cf:∀h,bj (F (K'+2) .j6) [nd x.2.1,.int (c / 4 / (A.length:Int)),J9 ms] h=.ok (nd f) h:=fun h=>aM h (by simp[ai,bz,PV.pure,gG]) ff
  have cw:∀ ρ h,bG (bC (F (K'+2))) (ky (F (K'+2))) (cJ [] ρ) (A.map Mf) h=.ok ((A.filter fun x=>jo x.2.1).map Mf) h:=fun ρ h=>jC Mf (fun x=>jo x.2.1) Mf A (fun x _=>Fb (K'+2) x h) fun x _=>rfl
  have la:(A.map Mf).length<16777216:=by rw[List.length_map];omega
  have wn:∀h,Ow (.lst ((A.filter fun x=>jo x.2.1).map Mf)) (.lst []) h=.ok (.bl (!((A.filter fun x=>jo x.2.1).map Mf).isEmpty)) h:=fun h=>rH (xy fun x hx=>⟨(aw x (List.mem_filter.mp hx).1).1,(aw x (List.mem_filter.mp hx).1).2.1,(aw x (List.mem_filter.mp hx).1).2.2.1⟩) h;have wm:∀x∈A.filter (fun x=>jo x.2.1),x∈A∧jo x.2.1=true:=fun x hx=>List.mem_filter.mp hx;generalize(A.filter fun x=>jo x.2.1)=W at cw wn wm
  suffices S:∃(B':List Pc),(B'.length=B.length∧∀q∈B',PI (d+1) (2 * b+1) q)∧cZ (F (K'+2)) [some (bk B),some (.int c),some (J9 ms),none,none,none,none,none,none,none,none,none] []=.rt (bk B') [] by obtain⟨B',b1,b2⟩:=S;exact⟨B',b1.1,b1.2,r2 B' [] b2⟩
  let Q:SR→Prop:=fun R=>∃(B':List Pc),(B'.length=B.length∧∀q∈B',PI (d+1) (2 * b+1) q)∧R=.rt (bk B') [];show Q _;unfold cZ;refine cW _ _ (by simp -implicitDefEqProofs only [EY,ca];rfl) ?_;refine cW _ _ (by simp -implicitDefEqProofs only [EY,if_true];rfl) ?_;refine cW _ _ (by simp -implicitDefEqProofs only [EY,e0,en];rfl) ?_;refine cW _ _ (by simp -implicitDefEqProofs only [EY,lnA,pz,ix,Mf];rfl) ?_;refine cW _ _ (by simp -implicitDefEqProofs only [EY,lnA,Ws,cf];rfl) ?_;refine cW _ _ (by simp -implicitDefEqProofs only [EY,la,cw];rfl) ?_;refine pR (fun(z:Nat×Pc×List Int×Nd×Nd×List (List Nat))=>[some (bk B),some (.int c),some (J9 ms),some (.lst (A.map Mf)),some (.int (c / 4)),some (wy ((z.1:Int)::z.2.2.1)),some (nd z.2.2.2.1),some (nms z.2.2.2.2.2),some (nd z.2.2.2.2.1),some (.lst (W.map Mf)),none,none]) (fun _=> []) (fun z=>Z7 B (2 * b+1) z.1 z.2.1 z.2.2.1 z.2.2.2.1 z.2.2.2.2.1) ?_ fun z hz=>?_
  ·have stay:Z7 B (2 * b+1) i q rr x.2.1 f:=⟨g1,g3,nf.w,nf.d,nf.c,nf.l⟩
   cases hW:(!(W.map Mf).isEmpty)with
   |false=>exact⟨(i,q,rr,x.2.1,f,x.2.2),stay,by dsimp only;rw[g2];simp -implicitDefEqProofs only [EY,wn,hW]⟩
   |true=>
    cases e1:decide (c / 4 / 3 % 4=1)with
    |false=>exact⟨(i,q,rr,x.2.1,f,x.2.2),stay,by dsimp only;rw[g2];simp -implicitDefEqProofs only [EY,wn,hW,e1]⟩
    |true=>
     have lW:0<W.length:=by cases W with
      |nil=>cases hW
      |cons a r=>simp
     have hlw:(0:Int)<(W.length:Int):=by omega
     have pw:decide ((0:Int)<(W.length:Int))=true:=decide_eq_true hlw;have lnW:∀h,bF [.lst (W.map Mf)] h=.ok (.int W.length) h:=fun h=>by rw[Be,List.length_map]
     have tw:=ba (c / 4) hlw;obtain⟨u,hu,iu⟩:=pick W _ tw.1 tw.2;obtain⟨uA,uw⟩:=wm u hu;obtain⟨i',q',rr',u1,u2,u3,u4⟩:=am u uA;obtain⟨v1,v2,v3,v4⟩:=aw u uA;obtain⟨uw1,un,Td⟩:=u;dsimp only at u2 u3 u4 v1 v2 v3 v4 uw
     cases un with
     |j4 y ps hh cc=>
      rw[jo]at uw;have uw':=of_decide_eq_true uw
      cases hh with
      |nil=>simp at uw'
      |cons s0 hr=>
       rw[wN,acf,acf,acf,acf]at v1;rw[Nm,acf,acf,decide_eq_true_eq,decide_eq_true_eq]at v4;have l6:=of_decide_eq_true v1.2.2.2.1;have s0g:sg s0=true:=List.all_eq_true.mp v1.2.2.1 s0 List.mem_cons_self
       have XQ:Z7 B (2 * b+1) i' q' rr' (.j4 y ps (s0::hr) cc) (.j4 y ps (List.replicate (s0::hr).length s0) cc):=⟨u1,u3,by
        rw[wN,v1.1,v1.2.1,v1.2.2.2.2,show Mu (List.replicate (s0::hr).length s0)=true from List.all_eq_true.mpr fun z hz=>by rw[List.eq_of_mem_replicate hz];exact s0g,decide_eq_true (show(List.replicate (s0::hr).length s0).length<60 by rw[List.length_replicate];exact l6)];rfl,by rw[dN,dN];omega,by rw[Ma,Ma];exact acg _,by
        rw[Nm,decide_eq_true (show ps.length≤2 * b+1 by omega),decide_eq_true (show(List.replicate (s0::hr).length s0).length≤2 * b+1 by rw[List.length_replicate];omega),bQ bb cc v4.2.2];rfl⟩
       refine⟨(i',q',rr',.j4 y ps (s0::hr) cc,.j4 y ps (List.replicate (s0::hr).length s0) cc,Td),XQ,?_⟩;have i3:∀h,b_ (nd (.j4 y ps (s0::hr) cc)) (.int 3) h=.ok (nms (s0::hr)) h:=fun h=>by rw[nd];rfl
       have i4:∀h,b_ (nd (.j4 y ps (s0::hr) cc)) (.int 4) h=.ok (.tup (f9 cc)) h:=fun h=>by rw[nd];rfl
       have q3:∀h,cQ (nd (.j4 y ps (s0::hr) cc)) none (some 3) h=.ok (.tup [.str tU,.str y,.tup (bg ps)]) h:=fun h=>by rw[nd];exact eF _ 3 h
       have q1:∀h,cQ (nms (s0::hr)) none (some 1) h=.ok (.tup [.str s0]) h:=fun h=>eF _ 1 h;have ln:∀h,bF [nms (s0::hr)] h=.ok (.int (s0::hr).length) h:=fun h=>by unfold nms;rw[qj,List.length_map]
       have mu:∀h,km (.tup [.str s0]) (.int (s0::hr).length) h=.ok (nms (List.replicate (s0::hr).length s0)) h:=fun h=>by rw[AY,if_pos ⟨cT.mpr ⟨by omega,by omega⟩,by show 1 * _≤_;rw[Nat.one_mul,Int.toNat_natCast];exact Nat.le_trans (by omega:_≤100) (show(100:Nat)≤sizeLine by decide)⟩,wM,Int.toNat_natCast];unfold nms;rw[List.map_replicate]
       have a2:∀a b c d e h,aq (.tup [a,b,c]) (.tup [d,e]) h=.ok (.tup [a,b,c,d,e]) h:=fun a b c d e h=>dh _ _ h (by simp;exact Nat.le_trans (by decide:5≤10) (by decide));have nu:nd (.j4 y ps (List.replicate (s0::hr).length s0) cc)=.tup [.str tU,.str y,.tup (bg ps),nms (List.replicate (s0::hr).length s0),.tup (f9 cc)]:=by rw[nd]
       dsimp only;rw[nu,← u2];generalize hLn:(((s0::hr).length:Nat):Int)=Ln at ln mu;generalize List.replicate (s0::hr).length s0=rep at mu;simp -implicitDefEqProofs only [EY,wn,hW,e1,lnW,pw,iu,Mf,q3,q1,ln,mu,a2]
     |text s=>cases uw
     |place p s=>cases uw
     |loop y p b s=>cases uw
     |choice p y z=>cases uw
     |use y ps=>cases uw
     |body ps=>cases uw
  obtain⟨i,q,rr,n0,f,ns⟩:=z;obtain⟨h1,h2,h3,h4,h5,h6⟩:=hz;dsimp only at h1 h2 h3 h4 h5 h6 ⊢;have hk:i<B.length:=(List.getElem?_eq_some_iff.mp h1).1;have pq:=hB q (List.mem_of_getElem? h1);have wq:=pq.w;simp only[wC,acf,decide_eq_true_eq]at wq;obtain⟨wq1,wq2,wq3,wq4,wq5⟩:=wq;have pd:=pq.dd;have pc':=pq.c;obtain⟨_,_,_,rl⟩:=h2.mem wq4 pq.l;obtain⟨b',sd,se⟩:=Fs (2 * b+1) h3 h6 h4 h5 h2 (K'+2) (by omega) wq4 (bQ bb _ pq.l) (by omega);have cs:∀h,bj (F (K'+2) .M7) [.tup (f9 q.b),wy rr,nd f] h=.ok (.tup (f9 b')) h:=fun h=>aM h (by simp[ai,PV.pure,aY,bS,bz]) se;have i0:∀h,b_ (wy ((i:Int)::rr)) (.int 0) h=.ok (.int i) h:=fun h=>by unfold wy;rw[List.map_cons,ux,O3];rfl
  have s1:∀h,cQ (wy ((i:Int)::rr)) (some 1) none h=.ok (wy rr) h:=fun h=>by unfold wy;exact cV _ 1 h
  have sl:∀h,cQ (pc q) none (some 4) h=.ok (.tup [.str tI,.str q.n,nms q.ns,G_ q.m]) h:=fun h=>eF _ 4 h;have ZW:∀a b c d e h,aq (.tup [a,b,c,d]) (.tup [e]) h=.ok (.tup [a,b,c,d,e]) h:=fun a b c d e h=>dh _ _ h (by simp;exact Nat.le_trans (by decide:5≤10) (by decide));have pp:=CO B i ⟨q.n,q.ns,q.m,b'⟩ hk lB [];have pp2:aq (.tup ((B.take i).map pc)) (.tup [.tup [.str tI,.str q.n,nms q.ns,G_ q.m,.tup (f9 b')]]) []=.ok (.tup ((B.take i++ [(⟨q.n,q.ns,q.m,b'⟩:Pc)]).map pc)) []:=pp.2.1;have ib:=xr h1;refine⟨B.set i ⟨q.n,q.ns,q.m,b'⟩,⟨by simp,PI.set hB (Nat.le_succ _) bb ⟨?_,?_,?_,sd.l,?_⟩⟩,?_⟩
  ·simp only[wC,wq1,wq2,wq3,sd.w,decide_true,Bool.true_and,decide_eq_true_eq];have:=sd.d;omega
  ·show dS b'≤d+1;have:=sd.d;omega
  ·show K4 b'≤10000;have:=sd.c;omega
  ·show q.ns.length≤_;have:=pq.n;omega
  ·simp -implicitDefEqProofs only [EY,i0,ib,s1,cs,sl,ZW,pp.1,pp2,pp.2.2.1,pp.2.2.2]
theorem yV(k:Nat)(ns:List Int)(j:Nat):F (k+1) .J2 [cv ns,.int (j:Int)]=.ok (.int (ns.getD j 0)):=by
 have r2:F (k+1) .J2 [cv ns,.int (j:Int)]=match fY (F k) [some (cv ns),some (.int (j:Int))] []with
   |.nx _ _=>.ok .non
   |.rt v h=>cr v h
   |_=>.bad:=rfl
 have ln:∀h,bF [cv ns] h=.ok (.int ns.length) h:=fun h=>by unfold cv;rw[EA,List.length_map]
 rw[r2]
 by_cases c:j<ns.length
 ·have d1:decide ((j:Int)<(ns.length:Int))=true:=decide_eq_true (by omega)
  have ix:∀h,b_ (cv ns) (.int (j:Int)) h=.ok (.int (ns.getD j 0)) h:=fun h=>by unfold cv;rw[Iu,dJ (v:=PV.int (ns.getD j 0)) (by omega) (by rw[Int.toNat_natCast,List.getElem?_map,List.getD_eq_getElem?_getD,List.getElem?_eq_getElem c];rfl)];rfl
  simp only[EY,fY,ln,d1,ix];rfl
 ·have d1:decide ((j:Int)<(ns.length:Int))=false:=decide_eq_false (by omega);have e:ns.getD j 0=0:=by rw[List.getD_eq_getElem?_getD,List.getElem?_eq_none (by omega)];rfl
  simp only[EY,fY,ln,d1,e];rfl
theorem jI(k:Nat)(ns:List Int)(i:Int)(hi:0≤i):∃v:Int,∀h,bj (F (k+1) .J2) [cv ns,.int i] h=.ok (.int v) h:=by have e:=yV k ns i.toNat;rw[Int.toNat_of_nonneg hi]at e;exact⟨_,fun h=>aM h (by simp[ai,ji,PV.pure]) e⟩
theorem uu{ms:List (List Nat)}(ml:ms.length=12)(hm:Mu ms=true)(cs:List Int){d b:Nat}(hd:d≤5)(hb:b≤25)(UG:12≤b)(B:List Pc)(lB:B.length≤8)(l1:1≤B.length)(hB:∀q∈B,PI d b q)(j:Nat)(hj:j<10)(h:List PO)(x4 x5 x6 x7:Option PV):
  ∃(B':List Pc)(y4:Option PV),B'.length=B.length∧(∀q∈B',PI (d+1) (2 * b+1) q)∧iL (F 139) [some (cv cs),some (J9 ms),some (bk B),some (.int (0+(j:Nat))),x4,x5,x6,x7] h=.nx [some (cv cs),some (J9 ms),some (bk B'),some (.int (0+(j:Nat))),y4,x5,x6,x7] h:=by
 obtain⟨v,hv⟩:=jI 138 cs (2+(0+((j:Nat):Int))) (by omega);obtain⟨B',b1,b2,b3⟩:=vY ml hm 138 (by decide) hd hb UG B lB l1 hB ((v+7919 * (0+((j:Nat):Int)) * (0+((j:Nat):Int))+1) * 48271 % 2147483647);have cc:∀h,bj (F 139 .K_) [bk B,.int ((v+7919 * (0+((j:Nat):Int)) * (0+((j:Nat):Int))+1) * 48271 % 2147483647),J9 ms] h=.ok (bk B') h:=fun h=>aM h (by simp[ai,cC,PV.pure,gG]) b3;have mj:hZ (7919 * (0+((j:Nat):Int))) (0+((j:Nat):Int))=true:=oG (cT.mpr ⟨by omega,by omega⟩);exact⟨B',some (.int ((v+7919 * (0+((j:Nat):Int)) * (0+((j:Nat):Int))+1) * 48271 % 2147483647)),b1,b2,by simp only[EY,iL,hv,mj,cc]⟩
theorem Bu(len:Nat):∀(r E:List Pc),QT len E r=none→∀q∈r,O4 ((E++r).map (·.n)) q.b=true
 |[],_,_,q,hq=>by cases hq
 |p::r,E,h,q,hq=>by
  rw[QT]at h
  split at h
  ·cases h
  ·rw[Option.or_eq_none_iff]at h;rcases List.mem_cons.mp hq with z|z
   ·subst z;exact dG (fun x hx=>by rw[List.map_append];exact List.mem_append_left _ hx) _ (kS E _ _ _ _ _ h.1)
   ·have:=Bu len r (E++ [p]) h.2 q z;rw[List.append_assoc]at this;exact this
theorem AO{v:PV}(h:List PO)(hp:fd 59 v)(hs:∀i,v≠.ref i):O2 h v=toD v∧Oe h v=true:=by
 have e:O2 h v=toD v:=by cases v<;>first|rfl|exact(hs _ rfl).elim
 refine⟨e,?_⟩;unfold Oe;rw[e,hp.1];exact decide_eq_true (Nat.le_trans hp.2.1 (by decide))
theorem sr{v:PV}(h:List PO)(hp:fd 59 v)(hs:∀i,v≠.ref i):G9 v v h=.ok (.bl true) h:=by obtain⟨e,ok⟩:=AO h hp hs;unfold G9;rw[if_pos ⟨ok,ok⟩,e,PySem.SeqAt.eqv_refl _ hp.1]
theorem Bh:∀ns:List Int,ns.length≤63→F 140 .law [.O7 (ns.map PV.int)]=.ok (.bl true):=fun cs hc=>by
 suffices S:∃h,uQ (F 139) (L 139) [some (cv cs),none,none,none,none,none,none,none] []=.rt (.bl true) h by
  obtain⟨h,e⟩:=S
  have r2:F 140 .law [.O7 (cs.map PV.int)]=match uQ (F 139) (L 139) [some (cv cs),none,none,none,none,none,none,none] []with
   |.nx _ _=>.ok .non
   |.rt v h=>cr v h
   |_=>.bad:=rfl
  rw[r2,e];exact bD rfl
 obtain⟨v0,e0⟩:=jI 138 cs 0 (by decide);obtain⟨v1,e1⟩:=jI 138 cs 1 (by decide);obtain⟨ms,ml,hm,en⟩:=yI 138 v0;have cn:∀h,bj (F 139 .Ms) [.int v0] h=.ok (J9 ms) h:=fun h=>aM h rfl en;obtain⟨B,n,m,b1,b8,hB,eg⟩:=DA 138 (by decide) cs hc ms ml hm;have cg:=dq (fn:=L 139 .p7) [cv cs] [J9 ms] (h:=[J4 0 40]) (i:=0) (by rw[ai,ji];rfl) (by rw[ai,gG];rfl) rfl (bL _ _) eg (cC B) (bL _ _);have cg':cP (L 139 .p7) [cv cs,.ref 0,J9 ms] [J4 0 40]=.ok (bk B) [J4 n m]:=cg;have mk:eZ [.int 0,.int 40] []=.ok (.ref 0) [J4 0 40]:=rfl
 let Q:SR→Prop:=fun R=>∃h,R=.rt (.bl true) h;show Q _;have hQ:∀h,Q (.rt (.bl true) h):=fun h=>⟨h,rfl⟩
 have P0:∀q∈B,PI 4 12 q:=fun q hq=>⟨(hB q hq).1,(hB q hq).2.1,(hB q hq).2.2.1,(hB q hq).2.2.2.1,(hB q hq).2.2.2.2⟩
 unfold uQ;refine cW _ _ (by simp only[EY,e0,cn];rfl) ?_;refine cW _ _ (by simp only[EY,mk,cg'];rfl) ?_;have t6:=ba v1 (by decide:(0:Int)<6);refine pR (fun(z:List Pc×Option PV×Option PV)=>[some (cv cs),some (J9 ms),some (bk z.1),z.2.1,z.2.2,none,none,none]) (fun _=> [J4 n m]) (fun z=>z.1.length=B.length∧∀q∈z.1,PI 6 51 q) ?_ fun z hz=>?_
 ·have up:∀{d b:Nat}{C:List Pc},d≤6→b≤51→(∀q∈C,PI d b q)→∀q∈C,PI 6 51 q:=fun hd hb h q hq=>⟨(h q hq).w,Nat.le_trans (h q hq).dd hd,(h q hq).c,bQ hb _ (h q hq).l,Nat.le_trans (h q hq).n hb⟩
  obtain⟨B1,y4,k1,k2,k3⟩:=uu ml hm cs (by decide:4≤5) (by decide) (by decide) B b8 b1 P0 0 (by decide) [J4 n m] none none none none;obtain⟨B2,z4,k4,k5,k6⟩:=uu ml hm cs (by decide:5≤5) (by decide) (by decide) B1 (by omega) (by omega) k2 1 (by decide) [J4 n m] y4 none none none
  have st:∀(p:PV)(r:List PV)(a b c d e f g k:Option PV)(h:List PO) ρ1 h1,iL (F 139) [a,b,c,some p,e,f,g,k] h=.nx ρ1 h1→aN (w6 3) (iL (F 139)) (p::r) [a,b,c,d,e,f,g,k] h=aN (w6 3) (iL (F 139)) r ρ1 h1:=fun p r a b c d e f g k h ρ1 h1 he=>by rw[aN];show(match iL (F 139) [a,b,c,some p,e,f,g,k] h with|.nx ρ2 h2=>_|.ct ρ2 h2=>_|.bk ρ2 h2=>_|.rt v h2=>_|.exc v h2=>_|.bad=>_)=_;rw[he]
  have b1:QM 4611686018427387904 1=true:=rfl;have b2:QM 4611686018427387904 2=true:=rfl;have b0:QM 4611686018427387904 0=true:=rfl;have one:=(st _ [] _ _ _ none _ _ _ _ _ _ _ k3).trans (by rw[aN]);have two:=(st _ [_] _ _ _ none _ _ _ _ _ _ _ k3).trans ((st _ [] _ _ _ _ _ _ _ _ _ _ _ k6).trans (by rw[aN]));have ZQ:∀c i:Int,v1 % 6=i→Np [PV.int 1,.int 1,.int 1,.int 2,.int 2,.int 0] i=some (.int c)→Np [PV.int 1,.int 1,.int 1,.int 2,.int 2,.int 0] (v1 % 6)=some (.int c):=fun c i h g=>by rw[h];exact g
  rcases(show v1 % 6=0∨v1 % 6=1∨v1 % 6=2∨v1 % 6=3∨v1 % 6=4∨v1 % 6=5 by omega)with q|q|q|q|q|q
  iterate 3 exact⟨(B1,_,_),⟨k1,up (by decide) (by decide) k2⟩,by have h1:=ZQ 1 _ q rfl;simp only[EY,e1,h1,b1];exact one⟩
  iterate 2 exact⟨(B2,_,_),⟨by dsimp only;omega,k5⟩,by have h1:=ZQ 2 _ q rfl;simp only[EY,e1,h1,b2];exact two⟩
  exact⟨(B,none,none),⟨rfl,up (by decide) (by decide) P0⟩,by have h1:=ZQ 0 _ q rfl;simp only[EY,e1,h1,b0];rfl⟩
 obtain⟨C,y3,y4⟩:=z;obtain⟨z1,z2⟩:=hz;dsimp only at z1 z2 ⊢;rcases List.eq_nil_or_concat C with rfl|⟨D,q,rfl⟩
 ·rw[List.length_nil]at z1;omega
 ·rw[List.concat_eq_append]at z1 z2 ⊢;rw[List.length_append,List.length_singleton]at z1;have hl:D.length+1≤8:=by omega
  have hB:=z2;have hw:∀p∈D++ [q],wC p=true:=fun p hp=>(hB p hp).w;have Uz:∀p∈D++ [q],K4 p.b≤1000000:=fun p hp=>Nat.le_trans (hB p hp).c (by decide);have l1:(D++ [q]).length=D.length+1:=by simp
  have fe:=Bz 136 (D++ [q]) hw Uz (by omega) (by decide);rw[l1]at fe;have cf:∀h,bj (F 139 .v8) [bk (D++ [q])] h=.ok (V5 (QT (D.length+1) [] (D++ [q]))) h:=fun h=>aM h (by rw[ai,cC];rfl) fe;have be:=DT 137 D q (by decide) hl hw fun p hp=>⟨(hB p hp).dd,Uz p hp⟩
  refine cW _ _ (by simp only[EY,cf];rfl) ?_;refine cW _ _ (by simp only[EY,if_true];rfl) ?_;have d1:∀i,aj [J4 n m,M6 i] (.ref 1)=.ref 1:=fun _=>rfl;have i1:∀i,b_ (.ref 1) (.int 0) [J4 n m,M6 i]=.ok (.int i) [J4 n m,M6 i]:=fun _=>rfl
  cases hf:QT (D.length+1) [] (D++ [q])with
  |some w=>
   have dw:∀h,aj h (wy w)=wy w:=fun _=>rfl;have z5:decide ((5000:Int)<0)=false:=by decide
   refine cW _ _ (by simp only[EY,V5,dw];rfl) ?_;refine cW _ _ (by simp only[EY,d1,i1,z5];rfl) ?_;have wp:(PV.Og 6 (wy w)).pure=true:=by rw[PV.pure];exact bS w
   have te:=(tH 138 (bk (D++ [q])) (.Og 6 (wy w)) (cC _) wp (be.1 w hf)).1 (wy w) (bS w) rfl;have ct:∀h,bj (F 139 .Mr) [bk (D++ [q])] h=.ok (.lst [.str [110,97,109,101],wy w]) h:=fun h=>aM h (by rw[ai,cC];rfl) te;refine cW _ _ (by simp only[EY,ct];rfl) ?_;refine cW _ _ (by simp only[EY,dw];rfl) ?_;have es:=sr (v:=.lst [.str [110,97,109,101],wy w]) [J4 n m,M6 5000] (bA (sj (d:=1) (aB (cI (by decide)) (aB (cE (oR w)) (bK _)))) (by decide)) (fun i z=>by cases z);have it:∀h,gU [wy w,.ty "tuple"] h=.ok (.bl true) h:=fun h=>rfl;simp only[EY,dw,es,it];exact hQ _
  |none=>
   have us:=Bu (D.length+1) (D++ [q]) [] hf;have qq:=hB q (by simp);obtain⟨left,g1,g2⟩:=xH true (D++ [q]) (by omega) (fun p hp=>⟨us p hp,Uz p hp⟩) 40 (by decide) q.b .nil ((D.length:Int)+1 - 1) 5000 139 (us q (by simp)) (Uz q (by simp)) rfl (by decide) (by decide);have g3:L 139 .G4 ([bk (D++ [q]),.tup (f9 q.b),.int ((D.length:Int)+1 - 1),.non,.int 1]++.ref 0:: []) [M6 5000]=.ok .non [M6 left]:=g2;have cl:=dq (fn:=L 139 .G4) [bk (D++ [q]),.tup (f9 q.b),.int ((D.length:Int)+1 - 1),.non,.int 1] [] (h:=[J4 n m,M6 5000]) (i:=1) (by simp[ai,cC,PV.pure,aY]) rfl rfl (iD _) g3 rfl (iD _);have X5:cP (L 139 .G4) [bk (D++ [q]),.tup (f9 q.b),.int ((D.length:Int)+1 - 1),.non,.int 1,.ref 1] [J4 n m,M6 5000]=.ok .non [J4 n m,M6 left]:=cl;have bl:∀h,bF [bk (D++ [q])] h=.ok (.int ((D.length:Int)+1)) h:=fun h=>by rw[wd,l1];rfl
   refine cW _ _ (by simp only[EY,V5,nB,bl,d1,X5];rfl) ?_
   cases z:decide (left<0)with
   |true=>rw[cj,vV];simp only[EY,d1,i1,z];exact hQ _
   |false=>
    refine cW _ _ (by simp only[EY,d1,i1,z];rfl) ?_;have wq:=qq.w;simp only[wC,acf,decide_eq_true_eq]at wq;rcases be.2 hf with b1|b1
    ·have te:=(tH 138 (bk (D++ [q])) (.cls 3) (cC _) rfl b1).2 rfl;have ct:∀h,bj (F 139 .Mr) [bk (D++ [q])] h=.ok (.lst [.str [109,97,110,121],.int 1]) h:=fun h=>aM h (by rw[ai,cC];rfl) te;refine cW _ _ (by simp only[EY,ct];rfl) ?_;have es:=sr (v:=.lst [.str [109,97,110,121],.int 1]) [J4 n m,M6 left] (bA (sj (d:=1) (aB (cI (by decide)) (aB (mG _ _) (bK _)))) (by decide)) (fun i z=>by cases z);rw[cj,vV];simp only[EY,es];exact hQ _
    ·have te:=Cp 138 (bk (D++ [q])) (nms q.ns) (cC _) (br _) b1;have ct:∀h,bj (F 139 .Mr) [bk (D++ [q])] h=.ok (.lst [nms q.ns]) h:=fun h=>aM h (by rw[ai,cC];rfl) te;refine cW _ _ (by simp only[EY,ct];rfl) ?_;have f2:fd 59 (.lst [nms q.ns]):=bA (sj (d:=1) (aB (sh wq.2.1) (bK _))) (by decide);have es:=sr (v:=.lst [nms q.ns]) [J4 n m,M6 left] f2 (fun i z=>by cases z)
     have en:G9 (.lst [nms q.ns]) (.lst [.str [109,97,110,121],.int 1]) [J4 n m,M6 left]=.ok (.bl false) [J4 n m,M6 left]:=by unfold G9;rw[if_pos ⟨(AO _ f2 fun i z=>by cases z).2,(AO _ (bA (sj (d:=1) (aB (cI (by decide)) (aB (mG _ _) (bK _)))) (by decide)) fun i z=>by cases z).2⟩];rfl
     have it:∀h,gU [nms q.ns,.ty "tuple"] h=.ok (.bl true) h:=fun h=>rfl;rw[cj,vV];simp only[EY,en,nB,es,it];exact hQ _
end K9
namespace PySem.W.Fast
open Lean in
local macro_rules|`(command|#check tws)=>do let p:=`PySem.Challenge;let q:=p.str "cw_formsmith_k09_wrong_names_refused_holds";let c←((List.range 434).map (fun i=>q.str s!"o_{i+43}")++("sts_94 tree_319 sts_79 sts_109 heap_39 sts_146 env_41 tree_145 view_39 tree_47 tree_78 tree_396 sts_397 sts_124 tree_167 sts_234 sts_64 tree_63 sts_320 tree_233 sts_168 tree_108 sts_190 heap_46 tree_476 tree_189 heap_477 tree_123 sts_49 tree_93".splitOn.map q.str)++[p.str "pw_formsmith_k09_wrong_names_refused",p.str "rw_formsmith_k09_wrong_names_refused"]).mapM fun n=>`(command|theorem $(mkIdent (.mkSimple s!"tw{n.hash}")):ident:True:=⟨⟩);return mkNullNode c.toArray
#check tws
end PySem.W.Fast
open PySem PySem.W PyProof.Rows
set_option maxRecDepth 100000 in
set_option maxHeartbeats 0 in
theorem PySem.Challenge.cw_formsmith_k09_wrong_names_refused_holds : PySem.Challenge.rw_formsmith_k09_wrong_names_refused.Holds := by
  w_on; o_law; k_head; (case hw => w_witness2)
  k_fill
  refine L3.Bg (l := PySem.Challenge.rw_formsmith_k09_wrong_names_refused) (k := 140) (x := "_law_script") rfl rfl ⟨rfl, by decide, by decide, rfl⟩ (fun w h Y => W.kIn_of Y) ?F
  case F =>
    intro w mg fa h KX G WX
    refine' K9.GP K9.Bh KX G WX ?N_ ?Qj ?Oa ?Pr ?QS ?Pu ?Px ?Pq ?Qi ?X6 ?ZD ?Ou ?Oq ?Om ?Ov ?Ot ?Oo ?u0 ?t_ ?m_ ?z9 ?G6 ?z8 ?q_ ?p8 ?j9 ?u_ ?u9 ?n6 ?A_ ?G7 ?z_ ?u6 ?u5 ?j_ ?Nv ?Nu ?Nr ?Oj ?Oi ?Oh ?MN ?n8 ?n_ ?Pg ?Pb ?Pa ?O_ ?O9 ?O8 ?hf ?L_ ?o9 ?Nj ?Ni ?hn
    (case N_=>k_is);(case Qj=>k_is);(case Oa=>k_is);(case Pr=>k_is);(case QS=>k_is);(case Pu=>k_is);(case Px=>k_is);(case Pq=>k_is);(case Qi=>k_is);(case X6=>k_is);(case ZD=>k_is);(case Ou=>k_is);(case Oq=>k_is);(case Om => first | rfl | kernel_rfl)
    (case Ov=>k_is);(case Ot=>k_is);(case Oo => first | rfl | kernel_rfl)
    (case u0 => kit_is)
    (case t_ => kit_is)
    (case m_ => kit_is)
    (case z9 => kit_is)
    (case G6 => kit_is)
    (case z8 => kit_is)
    (case q_ => kit_is)
    (case p8 => kit_is)
    (case j9 => kit_is)
    (case u_ => kit_is)
    (case u9 => kit_is)
    (case n6 => kit_is)
    (case A_ => kit_is)
    (case G7 => kit_is)
    (case z_ => kit_is)
    (case u6 => kit_is)
    (case u5 => kit_is)
    (case j_ => kit_is)
    (case Nv=>k_is);(case Nu=>k_is);(case Nr=>k_is);(case Oj=>k_is);(case Oi=>k_is);(case Oh=>k_is);(case MN => k_exc)
    (case n8 => kts_exm)
    (case n_ => kts_exm)
    (case Pg => first | rfl | kernel_rfl)
    (case Pb=>k_is);(case Pa => first | rfl | kernel_rfl)
    (case O_=>k_is);(case O9=>k_is);(case O8=>k_is)
    (case hf => intro f; cases f <;> (refine' K9.fq (Ad := K9.ZS _ _ _) ?fa ?fl ?fc ?fk ?fb; (case fa => dsimp only [K9.ZS]; first | k_is | ((repeat' apply And.intro) <;> k_is)); (case fl=>k_is); (case fc=>k_is); (case fk=>k_is); (case fb => intro _ _ _ _ _ _ us hl; first | (obtain rfl := K9.us0 hl; rfl) | (obtain ⟨_, rfl⟩ := K9.us1 hl; rfl) | (obtain ⟨_, _, rfl⟩ := K9.us2 hl; rfl) | (obtain ⟨_, _, _, rfl⟩ := K9.us3 hl; rfl) | (obtain ⟨_, _, _, _, rfl⟩ := K9.us4 hl; rfl) | (obtain ⟨_, _, _, _, _, rfl⟩ := K9.us5 hl; rfl) | (obtain ⟨_, _, _, _, _, _, rfl⟩ := K9.us6 hl; rfl) | (obtain ⟨_, _, _, _, _, _, _, rfl⟩ := K9.us7 hl; rfl))))
    (case L_=>k_is);(case o9=>k_is);(case Nj=>k_is);(case Ni=>k_is)
    (case hn => intro i; cases i <;> k_is)
