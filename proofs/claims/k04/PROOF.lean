import PyProof.Rows.All
import Wide.All
import OpenK.AllK
import Wide.FinOn
import Lean
import PyProof.EqAt
import PyProof.EqKinds
import PyProof.TupleCall
import KE.KTryMore
import PyProof.ExcAttrAll.ValueError
import PyProof.ExcClass3
import PyProof.InstStoreFacts
import KE.KDictList
import KE.KEqDict
import KE.KDictSum
import PyProof.Rows.SortStr
import PySem.Challenge.RW_formsmith_k04_names_and_values
noncomputable section
set_option Elab.async false
set_option linter.all false
set_option maxRecDepth 100000
namespace L2
open PySem PySem.Spec PyProof.Rows
abbrev Key:=Sum Int Str
def keyIs:Key→Value→Bool
 | .inl k,v=>Value.isInt k v
 | .inr x,v=>Value.isStrOf x v
def keyH(w:World):Key→Int
 | .inl k=>hashInt k
 | .inr x=>hashStr w x
theorem keyIs_shape:∀ {k:Key} {v:Value},keyIs k v=true→(∃ i t,k=Sum.inl i∧v=Value.int i t)∨(∃ x t,k=Sum.inr x∧v=Value.str x t)
 | .inl i,v,h=>by
  obtain ⟨t,e⟩:=Value.isInt_shape (k:=i) (v:=v) h
  exact .inl ⟨i,t,rfl,e⟩
 | .inr x,v,h=>by
  obtain ⟨t,e⟩:=Value.isStrOf_shape (x:=x) (v:=v) h
  exact .inr ⟨x,t,rfl,e⟩
theorem keyIs_int(i:Int)(t:Tok):keyIs (.inl i) (.int i t)=true:=by simp [keyIs,Value.isInt]
theorem keyIs_str(x:Str)(t:Tok):keyIs (.inr x) (.str x t)=true:=by simp [keyIs,Value.isStrOf]
theorem key_ll(a b:Int):decide ((Sum.inl a:Key)=Sum.inl b)=(a==b):=by
 by_cases e:a=b
 ·subst e;simp
 ·have h:¬ (Sum.inl a:Key)=Sum.inl b:=fun q=>e (Sum.inl.inj q)
  rw [decide_eq_false h]
  exact (beq_eq_false_iff_ne.mpr e).symm
theorem key_rr(a b:Str):decide ((Sum.inr a:Key)=Sum.inr b)=decide (a=b):=by
 by_cases e:a=b
 ·subst e;simp
 ·have h:¬ (Sum.inr a:Key)=Sum.inr b:=fun q=>e (Sum.inr.inj q)
  rw [decide_eq_false h,decide_eq_false e]
theorem key_lr(a:Int)(b:Str):decide ((Sum.inl a:Key)=Sum.inr b)=false:=decide_eq_false (fun q=>nomatch q)
theorem key_rl(a:Str)(b:Int):decide ((Sum.inr a:Key)=Sum.inl b)=false:=decide_eq_false (fun q=>nomatch q)
def mixKind(prog:Program)(w:World):PySem.KeyKind prog w Key where
 is:=keyIs
 hash:=keyH w
 inj:=fun v a b ha hb=>by
  rcases keyIs_shape ha with ⟨i,t,rfl,rfl⟩ | ⟨x,t,rfl,rfl⟩
  ·rcases keyIs_shape hb with ⟨j,u,rfl,e⟩ | ⟨y,u,rfl,e⟩
   ·injection e with e1 _;rw [e1]
   ·exact nomatch e
  ·rcases keyIs_shape hb with ⟨j,u,rfl,e⟩ | ⟨y,u,rfl,e⟩
   ·exact nomatch e
   ·injection e with e1 _;rw [e1]
 byValue:=fun k v h=>by
  rcases keyIs_shape h with ⟨i,t,rfl,rfl⟩ | ⟨x,t,rfl,rfl⟩<;>rfl
 pyHash:=fun hv h=>by
  rcases keyIs_shape hv with ⟨i,t,rfl,rfl⟩ | ⟨x,t,rfl,rfl⟩
  ·exact wpAny_pyHash_int h
  ·exact wpAny_pyHash_str h
 eqBool:=fun hu hv h=>by
  rcases keyIs_shape hu with ⟨i,t,rfl,rfl⟩ | ⟨x,t,rfl,rfl⟩
  ·rcases keyIs_shape hv with ⟨j,u,rfl,rfl⟩ | ⟨y,u,rfl,rfl⟩
   ·rw [key_ll] at h;exact wpAny_eqBool_int h
   ·rw [key_lr] at h;exact SeqAt.EqAt.int_str i t y u _ _ _ _ h
  ·rcases keyIs_shape hv with ⟨j,u,rfl,rfl⟩ | ⟨y,u,rfl,rfl⟩
   ·rw [key_rl] at h;exact SeqAt.EqAt.str_int x t j u _ _ _ _ h
   ·rw [key_rr] at h;exact wpAny_eqBool_str h
 «strs» :=fun k x t v h=>by
  rcases keyIs_shape h with ⟨i,u,rfl,e⟩ | ⟨y,u,rfl,e⟩
  ·exact nomatch e
  ·injection e with e1 _
   subst e1
   cases v<;>rfl
theorem mixKind_is(prog:Program)(w:World)(k:Key)(v:Value):(mixKind prog w).is k v=keyIs k v:=rfl
theorem mixKind_int(prog:Program)(w:World)(i:Int)(t:Tok):(mixKind prog w).is (.inl i) (.int i t)=true:=keyIs_int i t
theorem mixKind_str(prog:Program)(w:World)(x:Str)(t:Tok):(mixKind prog w).is (.inr x) (.str x t)=true:=keyIs_str x t
end L2
namespace L2
open PySem PySem.Spec PyProof.Rows
inductive V where
 | non | bl (b:Bool) | int (i:Int) | str (x:Str) | byt (b:Array UInt8) | flt (b:UInt64) | ref (a:Addr) | ty (n:String)
 deriving DecidableEq
def RelV:V→Value→Prop
 | .non,u=>u=Value.none
 | .bl b,u=>u=Value.bool b
 | .int i,u=>∃ t,u=Value.int i t
 | .str x,u=>∃ t,u=Value.str x t
 | .byt b,u=>∃ t,u=Value.bytes b t
 | .flt b,u=>∃ t,u=Value.float b t
 | .ref a,u=>u=Value.ref a
 | .ty n,u=>u=Value.type n
abbrev Vals:List V→List Value→Prop:=Paired RelV
theorem Vals.length{xs:List V}{us:List Value}(r:Vals xs us):xs.length=us.length:=Paired.length r
theorem Vals.get:∀ {xs:List V} {us:List Value} {i:Nat} {x:V},Vals xs us→xs[i]? =some x→∃ u,us[i]? =some u∧RelV x u
 | _,_,_,_,.nil,e=>by simp at e
 | _,_,0,_,.cons r _,e=>by simp at e;subst e;exact ⟨_,rfl,r⟩
 | _,_,i+1,x,.cons _ t,e=>by
  obtain ⟨u,h1,h2⟩:=Vals.get (i:=i) (x:=x) t (by simpa using e)
  exact ⟨u,by simpa using h1,h2⟩
theorem Vals.set{x:V}{u:Value}(r:RelV x u):∀ {xs:List V} {us:List Value} (i:Nat),Vals xs us→Vals (xs.set i x) (us.set i u)
 | _,_,_,.nil=>.nil
 | _,_,0,.cons _ t=>.cons r t
 | _,_,i+1,.cons q t=>.cons q (Vals.set r i t)
theorem Vals.append:∀ {xs ys:List V} {us ws:List Value},Vals xs us→Vals ys ws→Vals (xs++ys) (us++ws)
 | _,_,_,_,.nil,s=>s
 | _,_,_,_,.cons r t,s=>.cons r (Vals.append t s)
theorem Vals.take:∀ {xs:List V} {us:List Value} (n:Nat),Vals xs us→Vals (xs.take n) (us.take n)
 | _,_,0,_=>.nil
 | _,_,_+1,.nil=>.nil
 | _,_,n+1,.cons r t=>.cons r (Vals.take n t)
theorem Vals.drop:∀ {xs:List V} {us:List Value} (n:Nat),Vals xs us→Vals (xs.drop n) (us.drop n)
 | _,_,0,r=>r
 | _,_,_+1,.nil=>.nil
 | _,_,n+1,.cons _ t=>Vals.drop n t
def RelO:Option V→Option Value→Prop
 | some v,some u=>RelV v u
 | none,none=>True
 | _,_=>False
def KV{κ:Type}:List (κ×V)→List (κ×Value)→Prop:=Paired fun (p:κ×V) (q:κ×Value)=>p.1=q.1∧RelV p.2 q.2
def kV:Key→V
 | .inl i=>.int i
 | .inr x=>.str x
inductive HO where
 | lst (xs:List V)
 | tup (xs:List V)
 | dK (kvs:List (Key×V)) | dT (kvs:List (List Key×V))
 | set (S:Int→Bool) (n:Nat)
 | ins (C dx:Addr) (fs:List (Str×V))
 | own (x:Addr)
 | xd (fs:List (Str×V))
 | met (f x:Addr)
 | rng (lo hi:Int)
 | frz (o:Obj) (u:HO)
 | tbl (ps:Array Value)
 | ext (φ:Heap→Prop)
abbrev Hp:=Addr→Option HO
def upd(H:Hp)(a:Addr)(o:HO):Hp:=fun b=>if b=a then some o else H b
theorem upd_same{H:Hp}{a:Addr}{o:HO}:upd H a o a=some o:=by unfold upd;rw [if_pos rfl]
theorem upd_ne{H:Hp}{a b:Addr}{o:HO}(h:b≠a):upd H a o b=H b:=by unfold upd;rw [if_neg h]
theorem upd_upd{H:Hp}{a:Addr}{o u:HO}:upd (upd H a o) a u=upd H a u:=by
 funext b;unfold upd;split<;>rfl
theorem ne_of{H:Hp}{a b:Addr}{o u:HO}(h:H a=some o)(h':H b=some u)(d:o≠u):a≠b:=by
 intro e;subst e;rw [h] at h';exact d (Option.some.inj h')
theorem ne_of_none{H:Hp}{a b:Addr}{o:HO}(h:H a=some o)(h':H b=none):a≠b:=by
 intro e;subst e;rw [h] at h';cases h'
section
variable (P:Program) (w:World)
def ObjOk(H:Hp)(h:Heap)(a:Addr):HO→Prop
 | .lst xs=>xs.length≤sizeLine∧∃ (its:List Value) (n:Nat),Vals xs its∧h.get? a=some { cls:=.type "list",data:=.seq its.toArray n }
 | .tup xs=>xs.length≤sizeLine∧∃ its:List Value,Vals xs its∧IsTup h a its.toArray
 | .dK kvs=>kvs.length≤sizeLine∧(a==sysModules)=false∧∃ vs,KV kvs vs∧h.DictOf (mixKind P w) a vs
 | .dT kvs=>kvs.length≤sizeLine∧(a==sysModules)=false∧∃ xs:List (List Key×Addr×Value),
   Paired (fun (p:List Key×V) (q:List Key×Addr×Value)=>p.1=q.1∧H q.2.1=some (.tup (p.1.map kV))∧RelV p.2 q.2.2) kvs xs∧
   ∃ o es ep,h.get? a=some o∧o.ExactDict∧o.data= .dict es ep∧es.toList=xs.map (entryOfKey (tupleKind (mixKind P w)))∧(xs.map (·.1)).Nodup
 | .set S n=>h.SetOf (intKind P w) a S n
 | .ins C dx fs=>H dx=some (.own a)∧fs.length≤1000∧dx≠a∧h.get? a=some (PySem.W.instObj C dx)∧
   ∃ mA,h.Ns1 dx mA∧(∀ f,RelO (fs.lookup f) (mA f))∧PySem.Within mA (fs.map (·.1))
 | .own _=>∃ o,h.get? a=some o
 | .xd fs=>∃ mA,h.Ns1 a mA∧∀ f,RelO (fs.lookup f) (mA f)
 | .rng lo hi=>∃ t u v,h.get? a=some { cls:=.type "range",data:=.fields #[.int lo t,.int hi u,.int 1 v] }
 | .frz o u=>h.get? a=some o∧ObjOk H h a u
 | .tbl ps=>h.get? a=some { cls:=.none,data:=.fields ps }
 | .met f x=>h.get? a=some (PySem.W.methodObj (.ref f) (.ref x))
 | .ext φ=>φ h∧(∃ o,h.get? a=some o)∧∀ h1 h2:Heap,φ h1→(∀ o,h1.get? a=some o→h2.get? a=some o)→φ h2
def HOk(H:Hp)(h:Heap):Prop:=∀ a o,H a=some o→ObjOk P w H h a o
end
section
variable {P:Program} {w:World} {H H':Hp} {h h':Heap} {a:Addr} {o:HO}
theorem ObjOk.lt(x:ObjOk P w H h a o):a<h.objs.size:=by
 cases o with
 | lst xs=>obtain ⟨_,_,_,_,e⟩:=x;exact Heap.lt_size e
 | tup xs=>obtain ⟨_,_,_,p⟩:=x;exact p.lt
 | dK kvs=>obtain ⟨_,_,_,_,o,_,_,e,_⟩:=x;exact Heap.lt_size e
 | dT kvs=>obtain ⟨_,_,_,_,o,_,_,e,_⟩:=x;exact Heap.lt_size e
 | set S n=>obtain ⟨o,_,_,_,e,_⟩:=x;exact Heap.lt_size e
 | ins C dx fs=>obtain ⟨_,_,_,e,_⟩:=x;exact Heap.lt_size e
 | own y=>obtain ⟨_,e⟩:=x;exact Heap.lt_size e
 | xd fs=>obtain ⟨_,⟨_,_,_,e,_⟩,_⟩:=x;exact Heap.lt_size e
 | rng lo hi=>obtain ⟨_,_,_,e⟩:=x;exact Heap.lt_size e
 | frz ob u=>obtain ⟨e,_⟩:=x;exact Heap.lt_size e
 | tbl ps=>exact Heap.lt_size (show h.get? a=some _ from x)
 | met f y=>exact Heap.lt_size (show h.get? a=some _ from x)
 | ext φ=>obtain ⟨_,⟨_,e⟩,_⟩:=x;exact Heap.lt_size e
theorem Paired.mapP{α β:Type}{F G:α→β→Prop}:∀ {l₁:List α} {l₂:List β},Paired F l₁ l₂→(∀ a b,F a b→G a b)→Paired G l₁ l₂
 | _,_,.nil,_=>.nil
 | _,_,.cons r t,f=>.cons (f _ _ r) (Paired.mapP t f)
theorem ObjOk.stay(x:ObjOk P w H h a o)(k:∀ b u,(b=a∨H b=some (.own a))→h.get? b=some u→h'.get? b=some u)
  (ho:∀ b,H b=some (.own a)→H' b=some (.own a)) (ht:∀ b xs,H b=some (.tup xs)→H' b=some (.tup xs)):ObjOk P w H' h' a o:=by
 induction o with
 | lst xs=>obtain ⟨z,its,n,r,e⟩:=x;exact ⟨z,its,n,r,k _ _ (.inl rfl) e⟩
 | tup xs=>obtain ⟨z,its,r,ob,e,c⟩:=x;exact ⟨z,its,r,ob,k _ _ (.inl rfl) e,c⟩
 | dK kvs=>obtain ⟨z,y,vs,r,ob,es,ep,e,c⟩:=x;exact ⟨z,y,vs,r,ob,es,ep,k _ _ (.inl rfl) e,c⟩
 | dT kvs=>
  obtain ⟨z,y,xs,r,ob,es,ep,e,c⟩:=x
  exact ⟨z,y,xs,Paired.mapP r fun p q z=>⟨z.1,ht _ _ z.2.1,z.2.2⟩,ob,es,ep,k _ _ (.inl rfl) e,c⟩
 | set S n=>obtain ⟨ob,es,ep,t,e,c⟩:=x;exact ⟨ob,es,ep,t,k _ _ (.inl rfl) e,c⟩
 | ins C dx fs=>
  obtain ⟨d,z,ne,e,mA,⟨od,es,ep,e2,c⟩,r⟩:=x
  exact ⟨ho _ d,z,ne,k _ _ (.inl rfl) e,mA,⟨od,es,ep,k _ _ (.inr d) e2,c⟩,r⟩
 | own y=>obtain ⟨ob,e⟩:=x;exact ⟨ob,k _ _ (.inl rfl) e⟩
 | xd fs=>obtain ⟨mA,⟨od,es,ep,e,c⟩,r⟩:=x;exact ⟨mA,⟨od,es,ep,k _ _ (.inl rfl) e,c⟩,r⟩
 | rng lo hi=>obtain ⟨t,u,v,e⟩:=x;exact ⟨t,u,v,k _ _ (.inl rfl) e⟩
 | frz ob u ih=>obtain ⟨e,q⟩:=x;exact ⟨k _ _ (.inl rfl) e,ih q⟩
 | tbl ps=>
  have e:h.get? a=some { cls:=.none,data:=.fields ps }:=x
  show h'.get? a=some { cls:=.none,data:=.fields ps }
  exact k a _ (.inl rfl) e
 | met f y=>
  have e:h.get? a=some (PySem.W.methodObj (.ref f) (.ref y)):=x
  show h'.get? a=some (PySem.W.methodObj (.ref f) (.ref y))
  exact k a _ (.inl rfl) e
 | ext φ=>obtain ⟨p,⟨o,e⟩,st⟩:=x;exact ⟨st _ _ p fun o q=>k _ _ (.inl rfl) q,⟨o,k _ _ (.inl rfl) e⟩,st⟩
theorem HOk.lt(x:HOk P w H h)(e:H a=some o):a<h.objs.size:=(x a o e).lt
theorem HOk.fresh(x:HOk P w H h)(e:h.objs.size≤a):H a=none:=by
 cases q:H a with
 | none=>rfl
 | some u=>exact absurd (Nat.lt_of_lt_of_le (x.lt q) e) (Nat.lt_irrefl _)
theorem HOk.kept(x:HOk P w H h)(k:∀ b u,h.get? b=some u→h'.get? b=some u):HOk P w H h':=fun a o e=>
 (x a o e).stay (fun b u _ q=>k b u q) (fun _ q=>q) fun _ _ q=>q
theorem HOk.laid(x:HOk P w H h)(k:∀ b u,h.get? b=some u→h'.get? b=some u)(hp:h.objs.size≤a)(new:ObjOk P w (upd H a o) h' a o):HOk P w (upd H a o) h':=fun b u e=>by
 have hn:=x.fresh hp
 by_cases hb:b=a
 ·subst hb;rw [upd_same] at e;cases e;exact new
 ·rw [upd_ne hb] at e
  exact (x b u e).stay (fun c v _ q=>k c v q) (fun c q=>by rw [upd_ne (ne_of_none q hn)];exact q) fun c xs q=>by rw [upd_ne (ne_of_none q hn)];exact q
end
def Rd(H:Hp)(a:Addr)(u:HO):Prop:=H a=some u∨∃ o,H a=some (.frz o u)
theorem Rd.of{H:Hp}{a:Addr}{u:HO}(h:H a=some u):Rd H a u:=.inl h
theorem Rd.ok{P:Program}{w:World}{H:Hp}{h:Heap}{a:Addr}{u:HO}(r:Rd H a u)(x:HOk P w H h):ObjOk P w H h a u:=by
 rcases r with r | ⟨o,r⟩
 ·exact x a u r
 ·obtain ⟨_,q⟩:=x a _ r
  exact q
def Mut:Option HO→Prop
 | some (.lst _)=>True
 | some (.dK _)=>True
 | some (.dT _)=>True
 | some (.set _ _)=>True
 | some (.ins _ _ _)=>True
 | some (.ext _)=>True
 | _=>False
section
variable {P:Program} {w:World} {H:Hp} {h h':Heap} {x e:Addr} {o':HO}
theorem HOk.write(ok:HOk P w H h)(mu:Mut (H x))(he:e=x∨H e=some (.own x))(k:∀ b u,b≠e→h.get? b=some u→h'.get? b=some u)(heo:∃ u,h'.get? e=some u)
  (new:ObjOk P w (upd H x o') h' x o'):HOk P w (upd H x o') h':=fun b u q=>by
 have nown:∀ c y,H c=some (.own y)→c≠x:=fun c y r z=>by subst z;rw [r] at mu;exact mu
 have ntup:∀ c xs,H c=some (.tup xs)→c≠x:=fun c xs r z=>by subst z;rw [r] at mu;exact mu
 by_cases hb:b=x
 ·subst hb;rw [upd_same] at q;cases q;exact new
 ·rw [upd_ne hb] at q
  by_cases hbe:b=e
  ·have q':H b=some (.own x):=by
    rcases he with z | z
    ·exact absurd (hbe.trans z) hb
    ·rw [hbe];exact z
   rw [q] at q';cases q'
   obtain ⟨v,hv⟩:=heo
   exact ⟨v,by rw [hbe];exact hv⟩
  ·refine (ok b u q).stay (fun c v hc r=>k c v ?_ r) (fun c r=>by rw [upd_ne (nown c b r)];exact r) fun c xs r=>by rw [upd_ne (ntup c xs r)];exact r
   rcases hc with rfl | hc
   ·exact hbe
   ·rintro rfl
    rcases he with z | z
    ·exact nown c b hc z
    ·rw [hc] at z;cases z;exact hb rfl
end
structure Un(fs ex:List Addr)(H H':Hp)(h h':Heap):Prop where
 keep:∀ b o,h.get? b=some o→H b=none→b∉fs→b∉ex→h'.get? b=some o
 slot:∀ b o,h.get? b=some o→H b=none→b∈fs→b∉ex→∃ sl,h'.get? b=some { o with slots:=sl }
 free:∀ b o,h.get? b=some o→H b=none→b∉ex→H' b=none
 there:∀ b o,h.get? b=some o→b∉ex→∃ o',h'.get? b=some o'
 tups:∀ b xs,H b=some (.tup xs)→H' b=some (.tup xs)
 frzs:∀ b o u,H b=some (.frz o u)→H' b=some (.frz o u)
 tbls:∀ b ps,H b=some (.tbl ps)→∃ more,H' b=some (.tbl (ps++more))
section
variable {fs fs' ex ex':List Addr} {H H1 H2:Hp} {h h1 h2 h':Heap} {a x e:Addr} {o:HO}
theorem Un.any(u:Un fs ex H H1 h h1){b:Addr}{ob:Obj}(q:h.get? b=some ob)(n:H b=none)(hx:b∉ex):∃ sl,h1.get? b=some { ob with slots:=sl }:=by
 by_cases hb:b∈fs
 ·exact u.slot b ob q n hb hx
 ·exact ⟨ob.slots,u.keep b ob q n hb hx⟩
theorem Un.trans(a:Un fs ex H H1 h h1)(b:Un fs ex H1 H2 h1 h2):Un fs ex H H2 h h2 where
 keep:=fun c ob q n hc hx=>b.keep c ob (a.keep c ob q n hc hx) (a.free c ob q n hx) hc hx
 slot:=fun c ob q n hc hx=>by
  obtain ⟨sl,e1⟩:=a.slot c ob q n hc hx
  obtain ⟨sl',e2⟩:=b.slot c _ e1 (a.free c ob q n hx) hc hx
  exact ⟨sl',e2⟩
 free:=fun c ob q n hx=>by
  obtain ⟨o',e1⟩:=a.there c ob q hx
  exact b.free c o' e1 (a.free c ob q n hx) hx
 there:=fun c ob q hx=>by
  obtain ⟨o',e1⟩:=a.there c ob q hx
  exact b.there c o' e1 hx
 tups:=fun c xs q=>b.tups c xs (a.tups c xs q)
 frzs:=fun c ob xs q=>b.frzs c ob xs (a.frzs c ob xs q)
 tbls:=fun c ps q=>by
  obtain ⟨m1,e1⟩:=a.tbls c ps q
  obtain ⟨m2,e2⟩:=b.tbls c _ e1
  exact ⟨m1++m2,by rw [e2,Array.append_assoc]⟩
theorem Un.kept(k:∀ b u,h.get? b=some u→h'.get? b=some u):Un fs ex H H h h':=
 ⟨fun b ob q _ _ _=>k b ob q,fun b ob q _ _ _=>⟨ob.slots,k b ob q⟩,fun _ _ _ n _=>n,fun b ob q _=>⟨ob,k b ob q⟩,fun _ _ q=>q,fun _ _ _ q=>q,fun _ ps q=>⟨#[],by rw [q];simp⟩⟩
theorem Un.refl:Un fs ex H H h h:=Un.kept fun _ _ q=>q
theorem Un.laid(k:∀ b u,h.get? b=some u→h'.get? b=some u)(hp:h.objs.size≤a)(hn:H a=none):Un fs ex H (upd H a o) h h' where
 keep:=fun b u q _ _ _=>k b u q
 slot:=fun b u q _ _ _=>⟨u.slots,k b u q⟩
 free:=fun b u q n _=>by rw [upd_ne (Nat.ne_of_lt (Nat.lt_of_lt_of_le (Heap.lt_size q) hp))];exact n
 there:=fun b u q _=>⟨u,k b u q⟩
 tups:=fun b xs q=>by rw [upd_ne (ne_of_none q hn)];exact q
 frzs:=fun b u xs q=>by rw [upd_ne (ne_of_none q hn)];exact q
 tbls:=fun b ps q=>⟨#[],by rw [upd_ne (ne_of_none q hn),q];simp⟩
theorem Un.write(mu:Mut (H x))(he:e=x∨H e=some (.own x))(k:∀ b u,b≠e→h.get? b=some u→h'.get? b=some u)(heo:∃ u,h'.get? e=some u):Un fs ex H (upd H x o) h h':=by
 have hx:∀ b,H b=none→b≠x:=fun b n z=>by subst z;rw [n] at mu;exact mu
 have hb:∀ b,H b=none→b≠e:=fun b n z=>by
  subst z
  rcases he with r | r
  ·exact hx b n r
  ·rw [n] at r;cases r
 have hm:∀ b u,H b=some u→¬ Mut (some u)→b≠x:=fun b u q nm z=>by subst z;rw [q] at mu;exact nm mu
 refine ⟨fun b u q n _ _=>k b u (hb b n) q,fun b u q n _ _=>⟨u.slots,k b u (hb b n) q⟩,fun b u q n _=>by rw [upd_ne (hx b n)];exact n,fun b u q _=>?_,
  fun b xs q=>by rw [upd_ne (hm b _ q fun z=>z)];exact q,fun b u xs q=>by rw [upd_ne (hm b _ q fun z=>z)];exact q,fun b ps q=>⟨#[],by rw [upd_ne (hm b _ q fun z=>z),q];simp⟩⟩
 by_cases hbe:b=e
 ·subst hbe;exact heo
 ·exact ⟨u,k b u hbe q⟩
theorem Un.mono(u:Un fs ex H H1 h h1)(hs:∀ b∈fs,b∈fs')(hx:∀ b∈ex,b∈ex'):Un fs' ex' H H1 h h1:=
 ⟨fun b ob q n hb he=>u.keep b ob q n (fun z=>hb (hs b z)) fun z=>he (hx b z),fun _ _ q n _ he=>u.any q n fun z=>he (hx _ z),fun b ob q n he=>u.free b ob q n fun z=>he (hx b z),fun b ob q he=>u.there b ob q fun z=>he (hx b z),u.tups,u.frzs,u.tbls⟩
end
def trk(h:Heap)(H:Hp):List Addr:=(List.range h.objs.size).filter fun a=>(H a).isSome
def hidT(h:Heap)(H:Hp):Heap:=PySem.W.hideAll h (trk h H)
theorem hidT_size(h:Heap)(H:Hp):(hidT h H).objs.size=h.objs.size:=PySem.W.hideAll_size _ _
theorem hidT_get{h:Heap}{H:Hp}{b:Addr}{o:Obj}(e:h.get? b=some o)(n:H b=none):(hidT h H).get? b=some o:=
 PySem.W.hideAll_get _ e fun hm=>by
  have q:(H b).isSome=true:=(List.mem_filter.mp hm).2
  rw [n] at q;simp at q
theorem of_hidT{h:Heap}{H:Hp}{b:Addr}{o:Obj}(e:(hidT h H).get? b=some o):h.get? b=some o∧H b=none:=by
 have e':h.get? b=some o:=PySem.W.of_hideAll (trk h H) e
 refine ⟨e',?_⟩
 cases q:H b with
 | none=>rfl
 | some x=>
  have hm:b∈trk h H:=List.mem_filter.mpr ⟨List.mem_range.mpr (Heap.lt_size e'),by simp [q]⟩
  have z:(hidT h H).get? b=none:=PySem.W.hideAll_none (trk h H) hm
  rw [z] at e;cases e
def allNews(g h:Heap)(L:Addr):List (Addr×Obj):=(List.range h.objs.size).filterMap fun a=>if a=L∨(g.get? a).isSome=true then none else (h.get? a).map fun o=>(a,o)
def rest(g h:Heap)(L d:Addr):List (Addr×Obj):=(allNews g h L).filter fun p=>decide (p.1≠d)
end L2
namespace L2
open PySem PySem.Spec PyProof.Rows
structure Mod(K:PySem.W.Frag)(mg:Str→Option Value)(base:Heap):Prop where
 kin:K.In base
 glob:base.Ns mainGlobals mg
 blt:∃ mb,base.Ns builtinsNs mb∧∀ x:Str,x≠"__name__"→mb x=bootBuiltins x
 nolimit:base.NoLimit
structure Cx where
 prog:Program
 w:World
 K:PySem.W.Frag
 mg:Str→Option Value
 base:Heap
 A:Around
 N:List Str
 s₀:Shared
 H₀:Hp
 env:Env
 outer:List Env
 stack:List Env
 ex:List Addr
 fn:Str→Bool
 calm:Bool
 pn:List (Addr×Obj)
 xe:Value→Shared→Prop
def frs(l:List Env):List Addr:=l.filterMap (·.frame)
abbrev Cx.fs(X:Cx):List Addr:=frs X.outer
def Vis(sc:Scope)(x:Str):Prop:=sc.names.lookup x=some .local∨sc.names.lookup x=some .cell∨sc.names.lookup x=some .free
def Loc(sc:Scope)(x:Str):Prop:=sc.names.lookup x=some .local∨sc.names.lookup x=some .cell
def Look(env:Env)(h:Heap)(m:Str→Option Value)(x:Str)(u:Value):Prop:=
 (env.kindOf x=some .local∧m x=some u)∨((env.kindOf x=some .cell∨env.kindOf x=some .free)∧∃ c,env.cells.lookup x=some c∧h.IsCell c (some u))
structure Cx.Ok(X:Cx):Prop where
 mod:Mod X.K X.mg X.base
 kind:X.env.scope.kind= .function
 glob:X.env.globals=mainGlobals
 blt:X.env.builtins=builtinsNs
 above:X.s₀.heap.objs.size≤X.env.locals
 inj:∀ x y c,X.env.cells.lookup x=some c→X.env.cells.lookup y=some c→x=y
 has:∀ x,(X.env.kindOf x=some .cell∨X.env.kindOf x=some .free)→∃ c,X.env.cells.lookup x=some c
 cab:∀ x c,X.fn x=true→X.env.cells.lookup x=some c→X.s₀.heap.objs.size≤c
 hd:X.calm=true→X.A.handled=none
 frames:X.A.frames=some X.stack
 stk:X.stack=X.outer∨(X.stack=X.env::X.outer∧X.env.frame=some X.env.locals)
 exf:∀ b∈X.ex,b≠X.env.locals∧∀ x c,X.env.cells.lookup x=some c→c≠b
 bs:∀ b o,X.base.get? b=some o→X.s₀.heap.get? b=some o∧X.H₀ b=none
 bsz:X.base.objs.size≤X.s₀.heap.objs.size
 noex:∀ b o,X.base.get? b=some o→b∉X.ex
 exfs:∀ b∈X.ex,b∉X.fs
 funs:X.s₀.heap.FunFrames X.base X.outer
 frf:∀ b∈X.fs,X.H₀ b=none
structure Inv(X:Cx)(pins:List (Addr×Obj))(σ:List (Option V))(H:Hp)(s:Shared):Prop where
 ok:X.Ok
 os:s.os=X.s₀.os
 bare:AllBare s.gens
 base:Un X.fs X.ex X.H₀ H X.s₀.heap s.heap
 loc:∃ m,s.heap.Ns X.env.locals m∧∀ (i:Nat) (x:Str) (v:V),X.N[i]? =some x→σ[i]? =some (some v)→Vis X.env.scope x→∃ u,RelV v u∧Look X.env s.heap m x u
 cell:∀ x c,X.env.cells.lookup x=some c→∃ v,s.heap.IsCell c v
 free:H X.env.locals=none
 freeC:∀ x c,X.env.cells.lookup x=some c→H c=none
 pin:∀ p∈X.pn++pins,s.heap.get? p.1=some p.2∧H p.1=none∧p.1≠X.env.locals∧p.1∉X.fs∧∀ v,p.2.data≠.cell v
 hok:HOk X.prog X.w H s.heap
 len:σ.length=X.N.length
section
variable {X:Cx} {pins:List (Addr×Obj)} {σ:List (Option V)} {H H':Hp} {s:Shared} {h':Heap}
theorem Cx.Ok.nofr(ok:X.Ok){b:Addr}{o:Obj}(e:X.base.get? b=some o):b∉X.fs:=fun hb=>by
 have:=(ok.funs.mem hb).1
 rw [e] at this;cases this
theorem Inv.bs(I:Inv X pins σ H s):∀ b o,X.base.get? b=some o→s.heap.get? b=some o∧H b=none:=fun b o e=>
 ⟨I.base.keep b o (I.ok.bs b o e).1 (I.ok.bs b o e).2 (I.ok.nofr e) (I.ok.noex b o e),I.base.free b o (I.ok.bs b o e).1 (I.ok.bs b o e).2 (I.ok.noex b o e)⟩
theorem Inv.bk(I:Inv X pins σ H s):∀ b o,X.base.get? b=some o→s.heap.get? b=some o:=fun b o e=>(I.bs b o e).1
theorem Inv.mod(I:Inv X pins σ H s):Mod X.K X.mg X.base:=I.ok.mod
theorem Inv.kIn(I:Inv X pins σ H s):X.K.In s.heap:=I.ok.mod.kin.keeps I.bk
theorem Inv.nolimit(I:Inv X pins σ H s):s.heap.NoLimit:=I.ok.mod.nolimit.keeps I.bk
theorem Inv.fr(I:Inv X pins σ H s):∃ m,Fr X.base X.env.locals s.heap m:=
 let ⟨m,hn,_⟩:=I.loc
 ⟨m,hn,I.bk,Nat.le_trans I.ok.bsz I.ok.above⟩
theorem Inv.lt(I:Inv X pins σ H s):X.env.locals<s.heap.objs.size:=let ⟨_,hn,_⟩:=I.loc;hn.lt
theorem Inv.sz(I:Inv X pins σ H s):X.s₀.heap.objs.size≤s.heap.objs.size:=Nat.le_trans I.ok.above (Nat.le_of_lt I.lt)
theorem Inv.nofs(I:Inv X pins σ H s){a:Addr}(h:s.heap.objs.size≤a):a∉X.fs:=fun hb=>by
 obtain ⟨_,o,ho,_⟩:=I.ok.funs.mem hb
 exact absurd (Nat.lt_of_lt_of_le (Heap.lt_size ho) (Nat.le_trans I.sz h)) (Nat.lt_irrefl _)
theorem Inv.cne(I:Inv X pins σ H s):∀ x c,X.env.cells.lookup x=some c→c≠X.env.locals:=fun x c e z=>by
 obtain ⟨v,o,ho,hd⟩:=I.cell x c e
 obtain ⟨m,⟨o',es,ep,ho',hd',_⟩,_⟩:=I.loc
 rw [z,ho'] at ho;cases ho;rw [hd'] at hd;cases hd
theorem Inv.funs(I:Inv X pins σ H s):s.heap.FunFrames X.base X.outer:=by
 have all:∀ (l:List Env),(∀ b∈frs l,b∈X.fs)→X.s₀.heap.FunFrames X.base l→s.heap.FunFrames X.base l:=by
  intro l
  induction l with
  | nil=>intro _ _;trivial
  | cons env r ih=>
   intro hs hl
   obtain ⟨hk,⟨L,o,hf,hn,ho,hd⟩,hr⟩:=hl
   have hL:L∈X.fs:=hs L (by unfold frs;rw [List.filterMap_cons,hf];exact List.mem_cons_self)
   obtain ⟨sl,e⟩:=I.base.slot L o ho (I.ok.frf L hL) hL fun z=>I.ok.exfs L z hL
   exact ⟨hk,⟨L,_,hf,hn,e,hd⟩,ih (fun b hb=>hs b (by unfold frs;rw [List.filterMap_cons,hf];exact List.mem_cons_of_mem _ hb)) hr⟩
 exact all X.outer (fun _ hb=>hb) I.ok.funs
theorem Inv.stack(I:Inv X pins σ H s):s.heap.FunFrames X.base X.stack:=by
 rcases I.ok.stk with e | ⟨e,hf⟩
 ·rw [e];exact I.funs
 ·rw [e]
  obtain ⟨m,hn,_⟩:=I.loc
  refine .cons (by rw [I.ok.kind];decide) hf hn ?_ I.funs
  exact Heap.get?_none_of_le (Nat.le_trans I.ok.bsz I.ok.above)
theorem Inv.stkSub(I:Inv X pins σ H s):∀ b∈frs X.stack,b∈X.env.locals::X.fs:=fun b hb=>by
 rcases I.ok.stk with e | ⟨e,hf⟩
 ·rw [e] at hb;exact List.mem_cons_of_mem _ hb
 ·rw [e] at hb
  unfold frs at hb
  rw [List.filterMap_cons,hf] at hb
  exact hb
theorem Inv.stkFree(I:Inv X pins σ H s):∀ b∈frs X.stack,H b=none:=fun b hb=>by
 rcases List.mem_cons.mp (I.stkSub b hb) with e | hb
 ·rw [e];exact I.free
 ·obtain ⟨_,o,ho,_⟩:=I.ok.funs.mem hb
  exact I.base.free b o ho (I.ok.frf b hb) fun z=>I.ok.exfs b z hb
theorem Inv.step{g':Array GenState}{t':Nat}{d':Drawn}{ch:List Addr}(I:Inv X pins σ H s)
  (hch:∀ b∈ch,(b∈X.ex∨X.s₀.heap.objs.size≤b)∧b≠X.env.locals∧(∀ x c,X.env.cells.lookup x=some c→c≠b)∧∀ p∈X.pn++pins,p.1≠b)
  (keep:∀ b o,b≠X.env.locals→b∉X.fs→b∉ch→s.heap.get? b=some o→H b=none→h'.get? b=some o)
  (slot:∀ b o,b≠X.env.locals→b∈X.fs→b∉ch→s.heap.get? b=some o→H b=none→∃ sl,h'.get? b=some { o with slots:=sl }) (free:∀ b o,b∉ch→s.heap.get? b=some o→H b=none→H' b=none)
  (there:∀ b o,b∉ch→s.heap.get? b=some o→∃ o',h'.get? b=some o')
  (tups:∀ b xs,H b=some (.tup xs)→H' b=some (.tup xs)) (frzs:∀ b o u,H b=some (.frz o u)→H' b=some (.frz o u)) (tbls:∀ b ps,H b=some (.tbl ps)→∃ more,H' b=some (.tbl (ps++more)))
  (ns:∀ m,s.heap.Ns X.env.locals m→h'.Ns X.env.locals m) (hok:HOk X.prog X.w H' h') (hg:AllBare g'):
  Inv X pins σ H' { s with heap:=h',gens:=g',drawn:=d',toks:=t' }:=by
 have neL:∀ b o,X.s₀.heap.get? b=some o→b≠X.env.locals:=fun b o e=>Nat.ne_of_lt (Nat.lt_of_lt_of_le (Heap.lt_size e) I.ok.above)
 have neC:∀ b o,X.s₀.heap.get? b=some o→b∉X.ex→b∉ch:=fun b o e hx hb=>by
  rcases (hch b hb).1 with z | z
  ·exact hx z
  ·exact absurd (Nat.lt_of_lt_of_le (Heap.lt_size e) z) (Nat.lt_irrefl _)
 have cellK:∀ x c,X.env.cells.lookup x=some c→∀ v,s.heap.IsCell c v→h'.IsCell c v:=fun x c e v ⟨o,ho,hd⟩=>by
  have nch:c∉ch:=fun z=>(hch c z).2.2.1 x c e rfl
  by_cases hc:c∈X.fs
  ·obtain ⟨sl,q⟩:=slot c o (I.cne x c e) hc nch ho (I.freeC x c e)
   exact ⟨_,q,hd⟩
  ·exact ⟨o,keep c o (I.cne x c e) hc nch ho (I.freeC x c e),hd⟩
 refine ⟨I.ok,I.os,hg,⟨fun b o e n hb hx=>?_,fun b o e n hb hx=>?_,fun b o e n hx=>?_,fun b o e hx=>?_,fun b xs e=>tups b xs (I.base.tups b xs e),fun b o xs e=>frzs b o xs (I.base.frzs b o xs e),fun b ps e=>?_⟩,?_,fun x c e=>?_,?_,fun x c e=>?_,fun p hp=>?_,hok,I.len⟩
 ·exact keep b o (neL b o e) hb (neC b o e hx) (I.base.keep b o e n hb hx) (I.base.free b o e n hx)
 ·obtain ⟨sl,e1⟩:=I.base.slot b o e n hb hx
  obtain ⟨sl',e2⟩:=slot b _ (neL b o e) hb (neC b o e hx) e1 (I.base.free b o e n hx)
  exact ⟨sl',e2⟩
 ·obtain ⟨o',e1⟩:=I.base.there b o e hx
  exact free b o' (neC b o e hx) e1 (I.base.free b o e n hx)
 ·obtain ⟨o',e1⟩:=I.base.there b o e hx
  exact there b o' (neC b o e hx) e1
 ·obtain ⟨m1,e1⟩:=I.base.tbls b ps e
  obtain ⟨m2,e2⟩:=tbls b _ e1
  exact ⟨m1++m2,by rw [e2,Array.append_assoc]⟩
 ·obtain ⟨m,hn,hl⟩:=I.loc
  refine ⟨m,ns m hn,fun i x v e1 e2 e3=>?_⟩
  obtain ⟨u,r,l⟩:=hl i x v e1 e2 e3
  refine ⟨u,r,?_⟩
  rcases l with l | ⟨k,c,e,z⟩
  ·exact .inl l
  ·exact .inr ⟨k,c,e,cellK x c e _ z⟩
 ·obtain ⟨v,z⟩:=I.cell x c e
  exact ⟨v,cellK x c e v z⟩
 ·obtain ⟨m,⟨o,_,_,ho,_⟩,_⟩:=I.loc
  exact free _ o (fun z=>(hch _ z).2.1 rfl) ho I.free
 ·obtain ⟨v,o,ho,hd⟩:=I.cell x c e
  exact free c o (fun z=>(hch c z).2.2.1 x c e rfl) ho (I.freeC x c e)
 ·obtain ⟨e,n,ne,nf,d⟩:=I.pin p hp
  have nch:p.1∉ch:=fun z=>(hch p.1 z).2.2.2 p hp rfl
  exact ⟨keep p.1 p.2 ne nf nch e n,free p.1 p.2 nch e n,ne,nf,d⟩
theorem Inv.un{t':Nat}(I:Inv X pins σ H s)(u:Un X.fs [] H H' s.heap h')(hok:HOk X.prog X.w H' h'):Inv X pins σ H' { s with heap:=h',toks:=t' }:=by
 obtain ⟨m,⟨o,es,ep,ho,r⟩,_⟩:=id I.loc
 obtain ⟨sl,hL⟩:=u.any ho I.free (by simp)
 exact I.step (g':=s.gens) (d':=s.drawn) (ch:= []) (fun _ z=>nomatch z) (fun b o _ hb _ e n=>u.keep b o e n hb (by simp)) (fun b o _ hb _ e n=>u.slot b o e n hb (by simp)) (fun b o _ e n=>u.free b o e n (by simp)) (fun b o _ e=>u.there b o e (by simp)) u.tups u.frzs u.tbls (fun m' hm=>by
  obtain ⟨o',es',ep',ho',r'⟩:=hm
  rw [ho] at ho';cases ho'
  exact ⟨_,es',ep',hL,r'⟩) hok I.bare
theorem Inv.call{g':Array GenState}{t':Nat}{d':Drawn}{ch:List Addr}(I:Inv X pins σ H s)(u:Un (frs X.stack) ch H H' s.heap h')(hok:HOk X.prog X.w H' h')(hg:AllBare g')
  (hch:∀ b∈ch,(b∈X.ex∨X.s₀.heap.objs.size≤b)∧b≠X.env.locals∧(∀ x c,X.env.cells.lookup x=some c→c≠b)∧∀ p∈X.pn++pins,p.1≠b):
  Inv X pins σ H' { s with heap:=h',gens:=g',drawn:=d',toks:=t' }:=by
 obtain ⟨m,⟨o,es,ep,ho,r⟩,_⟩:=id I.loc
 obtain ⟨sl,hL⟩:=u.any ho I.free fun z=>(hch _ z).2.1 rfl
 exact I.step (ch:=ch) hch (fun b o hL hb hc e n=>u.keep b o e n (fun z=>(List.mem_cons.mp (I.stkSub b z)).elim hL hb) hc) (fun b o _ _ hc e n=>u.any e n hc) (fun b o hc e n=>u.free b o e n hc) (fun b o hc e=>u.there b o e hc) u.tups u.frzs u.tbls (fun m' hm=>by
  obtain ⟨o',es',ep',ho',r'⟩:=hm
  rw [ho] at ho';cases ho'
  exact ⟨_,es',ep',hL,r'⟩) hok hg
theorem Inv.turned{t':Nat}{it:Addr}(I:Inv X pins σ H s)(k:∀ b o,b≠it→s.heap.get? b=some o→h'.get? b=some o)(hn:H it=none)(hL:it≠X.env.locals)
  (h1:it∈X.ex∨X.s₀.heap.objs.size≤it) (h2:∀ x c,X.env.cells.lookup x=some c→c≠it) (h3:∀ p∈X.pn++pins,p.1≠it):Inv X pins σ H { s with heap:=h',toks:=t' }:=by
 have nit:∀ b u,H b=some u→b≠it:=fun b u e z=>by rw [z,hn] at e;cases e
 refine I.step (g':=s.gens) (d':=s.drawn) (ch:= [it]) (fun b hb=>?_) (fun b o _ _ hc e _=>k b o (fun z=>hc (by simp [z])) e) (fun b o _ _ hc e _=>⟨o.slots,k b o (fun z=>hc (by simp [z])) e⟩) (fun _ _ _ _ n=>n)
  (fun b o hc e=>⟨o,k b o (fun z=>hc (by simp [z])) e⟩) (fun _ _ e=>e) (fun _ _ _ e=>e) (fun b ps e=>⟨#[],by rw [e];simp⟩) (fun m hm=>?_) (fun b u e=>?_) I.bare
 ·have e:b=it:=by simpa using hb
  subst e
  exact ⟨h1,hL,h2,h3⟩
 ·obtain ⟨o,es,ep,ho,r⟩:=hm
  exact ⟨o,es,ep,k _ o (Ne.symm hL) ho,r⟩
 ·refine (I.hok b u e).stay (fun c v hc q=>k c v ?_ q) (fun _ q=>q) fun _ _ q=>q
  rcases hc with z | z
  ·rw [z];exact nit b u e
  ·exact nit c _ z
theorem Inv.tok(I:Inv X pins σ H s)(t:Nat):Inv X pins σ H { s with toks:=t }:=I.un (h':=s.heap) (t':=t) Un.refl I.hok
theorem Inv.kept{t':Nat}(I:Inv X pins σ H s)(k:∀ b u,s.heap.get? b=some u→h'.get? b=some u):Inv X pins σ H { s with heap:=h',toks:=t' }:=I.un (Un.kept k) (I.hok.kept k)
theorem Inv.laid{a:Addr}{o:HO}{t':Nat}(I:Inv X pins σ H s)(k:∀ b u,s.heap.get? b=some u→h'.get? b=some u)(hp:s.heap.objs.size≤a)(new:ObjOk X.prog X.w (upd H a o) h' a o):
  Inv X pins σ (upd H a o) { s with heap:=h',toks:=t' }:=I.un (Un.laid k hp (I.hok.fresh hp)) (I.hok.laid k hp new)
theorem Inv.write{x e:Addr}{o:HO}{t':Nat}(I:Inv X pins σ H s)(mu:Mut (H x))(he:e=x∨H e=some (.own x))(k:∀ b u,b≠e→s.heap.get? b=some u→h'.get? b=some u)(heo:∃ u,h'.get? e=some u)
  (new:ObjOk X.prog X.w (upd H x o) h' x o):Inv X pins σ (upd H x o) { s with heap:=h',toks:=t' }:=I.un (Un.write mu he k heo) (I.hok.write mu he k heo new)
theorem Inv.weak{σ':List (Option V)}(I:Inv X pins σ H s)(hl:σ'.length=σ.length)(w:∀ (i:Nat) v,σ'[i]? =some (some v)→σ[i]? =some (some v)):Inv X pins σ' H s:=
 ⟨I.ok,I.os,I.bare,I.base,let ⟨m,hn,hl'⟩:=I.loc;⟨m,hn,fun i x v e1 e2 e3=>hl' i x v e1 (w i v e2) e3⟩,I.cell,I.free,I.freeC,I.pin,I.hok,hl.trans I.len⟩
theorem Inv.pins_of{pins':List (Addr×Obj)}(I:Inv X pins σ H s)(h:∀ p∈pins',s.heap.get? p.1=some p.2∧H p.1=none∧p.1≠X.env.locals∧p.1∉X.fs∧∀ v,p.2.data≠.cell v):Inv X pins' σ H s:=
 ⟨I.ok,I.os,I.bare,I.base,I.loc,I.cell,I.free,I.freeC,fun p hp=>(List.mem_append.mp hp).elim (fun z=>I.pin p (List.mem_append_left _ z)) (h p),I.hok,I.len⟩
theorem nodup_ix{N:List Str}(hN:N.Nodup){i j:Nat}{x:Str}(a:N[i]? =some x)(b:N[j]? =some x):i=j:=by
 obtain ⟨h1,e1⟩:=List.getElem?_eq_some_iff.mp a
 obtain ⟨h2,e2⟩:=List.getElem?_eq_some_iff.mp b
 exact (List.getElem_inj hN).mp (e1.trans e2.symm)
theorem store_ok2{M:Model}{A:Around}{E:Value→Shared→Prop}{i:Nat}{x:Str}{v:V}{u:Value}{Q:Unit→Shared→Prop}(I:Inv X pins σ H s)(hN:X.N.Nodup)(hi:X.N[i]? =some x)(hx:Loc X.env.scope x)(r:RelV v u)
  (h:∀ s',Inv X pins (σ.set i (some v)) H s'→(∃ a,Heap.SameBut a s.heap s'.heap∧(a=X.env.locals∨X.env.cells.lookup x=some a))→Q () s') (hf:X.fn x=true∨X.env.scope.names.lookup x=some .local:=by first | exact .inl rfl | exact .inr rfl | assumption):wpAny M A (storeName X.env x u) Q E s:=by
 obtain ⟨m,hn,hl⟩:=id I.loc
 have hcls:(X.env.scope.kind==.class||(X.env.scope.kind==.module&&X.env.locals !=X.env.globals))=false:=by rw [I.ok.kind];rfl
 have hiσ:i<σ.length:=by rw [I.len];exact (List.getElem?_eq_some_iff.mp hi).1
 have cne:=I.cne
 have tracked:∀ {a:Addr} {h':Heap},(∃ o,s.heap.get? a=some o∧H a=none)→Heap.SameBut a s.heap h'→HOk X.prog X.w H h':=fun {a h'} ha hs b ob e=>by
  obtain ⟨_,_,hfree⟩:=ha
  refine (I.hok b ob e).stay (fun c w' hc q=>(hs.2 c ?_).trans q) (fun _ q=>q) fun _ _ q=>q
  rintro rfl
  rcases hc with rfl | hc
  ·rw [hfree] at e;cases e
  ·rw [hfree] at hc;cases hc
 rcases hx with hk | hk
 ·refine wpAny_storeName_local hk hn (fun h' hn' hs=>?_) hcls
  obtain ⟨oL,_,_,hoL,_⟩:=id hn
  refine h _ ⟨I.ok,I.os,I.bare,⟨fun b o e n hb hx=>?_,fun b o e n hb hx=>?_,I.base.free,fun b o e hx=>?_,I.base.tups,I.base.frzs,I.base.tbls⟩,⟨_,hn',fun j y v' e1 e2 e3=>?_⟩,fun y c e=>?_,I.free,I.freeC,fun p hp=>?_,tracked ⟨oL,hoL,I.free⟩ hs,by simpa using I.len⟩ ⟨_,hs,.inl rfl⟩
  ·exact (hs.2 b (Nat.ne_of_lt (Nat.lt_of_lt_of_le (Heap.lt_size e) I.ok.above))).trans (I.base.keep b o e n hb hx)
  ·obtain ⟨sl,e1⟩:=I.base.slot b o e n hb hx
   exact ⟨sl,(hs.2 b (Nat.ne_of_lt (Nat.lt_of_lt_of_le (Heap.lt_size e) I.ok.above))).trans e1⟩
  ·obtain ⟨o',e1⟩:=I.base.there b o e hx
   exact ⟨o',(hs.2 b (Nat.ne_of_lt (Nat.lt_of_lt_of_le (Heap.lt_size e) I.ok.above))).trans e1⟩
  ·by_cases hj:j=i
   ·subst hj
    rw [hi] at e1;cases e1
    rw [List.getElem?_set_self hiσ] at e2
    cases e2
    exact ⟨u,r,.inl ⟨hk,by simp⟩⟩
   ·rw [List.getElem?_set_ne (Ne.symm hj)] at e2
    obtain ⟨u',r',q⟩:=hl j y v' e1 e2 e3
    refine ⟨u',r',?_⟩
    rcases q with ⟨k,e⟩ | ⟨k,c,e,z⟩
    ·refine .inl ⟨k,?_⟩
     have:y≠x:=fun e=>hj (nodup_ix hN e1 (e▸hi))
     simp [this,e]
    ·exact .inr ⟨k,c,e,z.sameBut hs (cne y c e)⟩
  ·obtain ⟨w',z⟩:=I.cell y c e
   exact ⟨w',z.sameBut hs (cne y c e)⟩
  ·obtain ⟨e,n,ne,nf,d⟩:=I.pin p hp
   exact ⟨(hs.2 p.1 ne).trans e,n,ne,nf,d⟩
 ·have hfn:X.fn x=true:=by
   rcases hf with z | z
   ·exact z
   ·rw [z] at hk;cases hk
  obtain ⟨c,hc⟩:=I.ok.has x (.inl hk)
  obtain ⟨w',z⟩:=I.cell x c hc
  refine wpAny_storeName_cell I.ok.kind hk hc z (fun h' hc' hs=>?_)
  obtain ⟨oc,hoc,hocd⟩:=id z
  refine h { s with heap:=h' } ⟨I.ok,I.os,I.bare,⟨fun b o e n hb hx=>?_,fun b o e n hb hx=>?_,I.base.free,fun b o e hx=>?_,I.base.tups,I.base.frzs,I.base.tbls⟩,⟨m,hn.sameBut hs (Ne.symm (cne x c hc)),fun j y v' e1 e2 e3=>?_⟩,fun y c' e=>?_,I.free,I.freeC,fun p hp=>?_,tracked ⟨oc,hoc,I.freeC x c hc⟩ hs,by simpa using I.len⟩ ⟨c,hs,.inr hc⟩
  ·exact (hs.2 b (Nat.ne_of_lt (Nat.lt_of_lt_of_le (Heap.lt_size e) (I.ok.cab x c hfn hc)))).trans (I.base.keep b o e n hb hx)
  ·obtain ⟨sl,e1⟩:=I.base.slot b o e n hb hx
   exact ⟨sl,(hs.2 b (Nat.ne_of_lt (Nat.lt_of_lt_of_le (Heap.lt_size e) (I.ok.cab x c hfn hc)))).trans e1⟩
  ·obtain ⟨o',e1⟩:=I.base.there b o e hx
   exact ⟨o',(hs.2 b (Nat.ne_of_lt (Nat.lt_of_lt_of_le (Heap.lt_size e) (I.ok.cab x c hfn hc)))).trans e1⟩
  ·by_cases hj:j=i
   ·subst hj
    rw [hi] at e1;cases e1
    rw [List.getElem?_set_self hiσ] at e2
    cases e2
    exact ⟨u,r,.inr ⟨.inl hk,c,hc,hc'⟩⟩
   ·rw [List.getElem?_set_ne (Ne.symm hj)] at e2
    obtain ⟨u',r',q⟩:=hl j y v' e1 e2 e3
    refine ⟨u',r',?_⟩
    rcases q with q | ⟨k,c',e,z'⟩
    ·exact .inl q
    ·refine .inr ⟨k,c',e,z'.sameBut hs ?_⟩
     rintro rfl
     exact hj (nodup_ix hN e1 (I.ok.inj _ _ _ e hc▸hi))
  ·by_cases hcc:c'=c
   ·subst hcc;exact ⟨_,hc'⟩
   ·obtain ⟨w2,z2⟩:=I.cell y c' e
    exact ⟨w2,z2.sameBut hs hcc⟩
  ·obtain ⟨e,n,ne,nf,d⟩:=I.pin p hp
   refine ⟨(hs.2 p.1 ?_).trans e,n,ne,nf,d⟩
   intro q
   rw [q,hoc] at e
   have q':oc=p.2:=Option.some.inj e
   exact d w' (by rw [← q'];exact hocd)
theorem store_ok{M:Model}{A:Around}{E:Value→Shared→Prop}{i:Nat}{x:Str}{v:V}{u:Value}{Q:Unit→Shared→Prop}(I:Inv X pins σ H s)(hN:X.N.Nodup)(hi:X.N[i]? =some x)(hx:Loc X.env.scope x)(r:RelV v u)
  (h:∀ s',Inv X pins (σ.set i (some v)) H s'→Q () s') (hf:X.fn x=true∨X.env.scope.names.lookup x=some .local:=by first | exact .inl rfl | exact .inr rfl | assumption):wpAny M A (storeName X.env x u) Q E s:=
 store_ok2 I hN hi hx r (fun s' I' _=>h s' I') hf
theorem Inv.call'{s':Shared}{ch:List Addr}(I:Inv X pins σ H s)(ho:s'.os=s.os)(u:Un (frs X.stack) ch H H' s.heap s'.heap)(hok:HOk X.prog X.w H' s'.heap)(hg:AllBare s'.gens)
  (hch:∀ b∈ch,(b∈X.ex∨X.s₀.heap.objs.size≤b)∧b≠X.env.locals∧(∀ x c,X.env.cells.lookup x=some c→c≠b)∧∀ p∈X.pn++pins,p.1≠b):Inv X pins σ H' s':=by
 obtain ⟨h',g',d',t',o'⟩:=s'
 have e:o'=s.os:=ho
 subst e
 exact I.call (g':=g') (t':=t') (d':=d') u hok hg hch
end
abbrev XK:=Value→Option Addr→Hp→Prop
abbrev St:=List (Option V)
abbrev VK:=V→Hp→Prop
abbrev TE:=St→Hp→VK→Prop
abbrev TT:=St→Hp→(Bool→Hp→Prop)→Prop
abbrev TA:=St→Hp→(List V→Hp→Prop)→Prop
structure Ends where
 nx:St→Hp→Prop
 rt:VK
 bk:St→Hp→Prop:=fun _ _=>False
 ct:St→Hp→Prop:=fun _ _=>False
abbrev TS:=Ends→St→Hp→Prop
def EP(X:Cx)(pins:List (Addr×Obj))(σ:St)(Q:VK)(u:Value)(s':Shared):Prop:=∃ v H',Inv X pins σ H' s'∧RelV v u∧Q v H'
def TP(X:Cx)(pins:List (Addr×Obj))(σ:St)(Q:Bool→Hp→Prop)(b:Bool)(s':Shared):Prop:=∃ H',Inv X pins σ H' s'∧Q b H'
def AP(X:Cx)(pins:List (Addr×Obj))(σ:St)(Q:List V→Hp→Prop)(us:List Value)(s':Shared):Prop:=∃ vs H',Inv X pins σ H' s'∧Vals vs us∧Q vs H'
def SP(X:Cx)(pins:List (Addr×Obj))(D:Ends)(f:Flow)(s':Shared):Prop:=
 match f with
 | .next=>∃ σ' H',Inv X pins σ' H' s'∧D.nx σ' H'
 | .brk=>∃ σ' H',Inv X pins σ' H' s'∧D.bk σ' H'
 | .cont=>∃ σ' H',Inv X pins σ' H' s'∧D.ct σ' H'
 | .ret u=>∃ v σ' H',Inv X pins σ' H' s'∧RelV v u∧D.rt v H'
def PE(X:Cx)(e:Expr)(t:TE):Prop:=
 ∀ (pins:List (Addr×Obj)) (s:Shared) (σ:St) (H:Hp) (Q:VK),Inv X pins σ H s→t σ H Q→wpAny (model X.prog X.w) X.A (eval e X.env) (EP X pins σ Q) X.xe s
def PT(X:Cx)(e:Expr)(t:TT):Prop:=
 ∀ (pins:List (Addr×Obj)) (s:Shared) (σ:St) (H:Hp) (Q:Bool→Hp→Prop),Inv X pins σ H s→t σ H Q→wpAny (model X.prog X.w) X.A (isTrue e X.env (eval e X.env)) (TP X pins σ Q) X.xe s
def PW(X:Cx)(e:Expr)(t:TT):Prop:=
 ∀ (whole:Sem Value) (pins:List (Addr×Obj)) (s:Shared) (σ:St) (H:Hp) (Q:Bool→Hp→Prop),Inv X pins σ H s→t σ H Q→wpAny (model X.prog X.w) X.A (isTrue e X.env whole) (TP X pins σ Q) X.xe s
theorem PW.pt{X:Cx}{e:Expr}{t:TT}(h:PW X e t):PT X e t:=h _
def PA(X:Cx)(es:List Expr)(t:TA):Prop:=
 ∀ (pos:Pos) (pins:List (Addr×Obj)) (s:Shared) (σ:St) (H:Hp) (Q:List V→Hp→Prop),Inv X pins σ H s→t σ H Q→wpAny (model X.prog X.w) X.A (spliced (backTo pos (starEach es X.env))) (AP X pins σ Q) X.xe s
def PS(X:Cx)(st:Stmt)(t:TS):Prop:=
 ∀ (pins:List (Addr×Obj)) (s:Shared) (σ:St) (H:Hp) (D:Ends),Inv X pins σ H s→t D σ H→wpAny (model X.prog X.w) X.A (exec st X.env) (SP X pins D) X.xe s
def PSs(X:Cx)(st:List Stmt)(t:TS):Prop:=
 ∀ (pins:List (Addr×Obj)) (s:Shared) (σ:St) (H:Hp) (D:Ends),Inv X pins σ H s→t D σ H→wpAny (model X.prog X.w) X.A (execs st X.env) (SP X pins D) X.xe s
theorem thn{α:Type}{t:Sem α}{Q Q':α→Shared→Prop}{M:Model}{A:Around}{E:Value→Shared→Prop}{s:Shared}(h:wpAny M A t Q E s)(hQ:∀ a s,Q a s→Q' a s):wpAny M A t Q' E s:=wpAny_mono h hQ fun _ _ x=>x
end L2
namespace L2
open PySem PySem.Spec PyProof.Rows
section
variable {X:Cx}
def tVar(i:Nat):TE:=fun σ H Q=>∃ v,σ[i]? =some (some v)∧Q v H
def tC(v:V):TE:=fun _ H Q=>Q v H
theorem pe_var{i:Nat}{x:Str}{pos:Pos}(hN:X.N[i]? =some x)(hv:Vis X.env.scope x)(hd:(x==("__debug__":Str))=false:=by decide)(hcd:(x==("__classdict__":Str))=false:=by decide):PE X (.Name x pos) (tVar i):=by
 intro pins s σ H Q I h
 obtain ⟨v,e,h⟩:=h
 obtain ⟨m,hn,hl⟩:=I.loc
 obtain ⟨u,r,l⟩:=hl i x v hN e hv
 have fin:EP X pins σ Q u s:=⟨v,H,I,r,h⟩
 rcases l with ⟨hk,hm⟩ | ⟨hk,c,hc,hcell⟩
 ·exact wpAny_Name (wpAny_loadName_local I.ok.kind hk hn hm fin) hd
 ·rcases hk with hk | hk
  ·exact wpAny_Name (wpAny_loadName_cell I.ok.kind hk hc hcell fin) hd
  ·exact wpAny_Name (wpAny_loadName_free I.ok.kind hk hc hcell fin hcd) hd
theorem pe_int{i j pos}:PE X (.Constant (.int i) j pos) (tC (.int i)):=fun _ _ _ H _ I h=>wpAny_Constant_int ⟨.int i,H,I.tok _,⟨_,rfl⟩,h⟩
theorem pe_bl{b j pos}:PE X (.Constant (.bool b) j pos) (tC (.bl b)):=fun _ _ _ H _ I h=>Constant_bool ⟨.bl b,H,I,rfl,h⟩
theorem pe_non{j pos}:PE X (.Constant .none j pos) (tC .non):=fun _ _ _ H _ I h=>Constant_none ⟨.non,H,I,rfl,h⟩
theorem pe_str{x j pos}:PE X (.Constant (.str x) j pos) (tC (.str x)):=fun _ _ _ H _ I h=>Calls.Constant_str ⟨.str x,H,I.tok _,⟨_,rfl⟩,h⟩
def Gl(X:Cx)(x:Str):Prop:=X.env.kindOf x=some .globalImplicit
theorem ld_glob{E:Value→Shared→Prop}{pins:List (Addr×Obj)}{s:Shared}{σ:St}{H:Hp}{x:Str}{u:Value}{pos:Pos}{Q:Value→Shared→Prop}(I:Inv X pins σ H s)(hg:Gl X x)(hm:X.mg x=some u)(h:Q u s)
  (hd:(x==("__debug__":Str))=false:=by decide):wpAny (model X.prog X.w) X.A (eval (.Name x pos) X.env) Q E s:=
 Calls.Name_function_global I.ok.kind hg (Calls.loadGlobal_global (by rw [I.ok.glob];exact I.mod.glob.keeps I.bk) hm h) hd
theorem ld_blt{E:Value→Shared→Prop}{pins:List (Addr×Obj)}{s:Shared}{σ:St}{H:Hp}{x:Str}{u:Value}{pos:Pos}{Q:Value→Shared→Prop}(I:Inv X pins σ H s)(hg:Gl X x)(hm:X.mg x=none)(hv:bootBuiltins x=some u)(h:Q u s)
  (hn:x≠"__name__":=by decide) (hd:(x==("__debug__":Str))=false:=by decide):wpAny (model X.prog X.w) X.A (eval (.Name x pos) X.env) Q E s:=by
 obtain ⟨mb,h1,h2⟩:=I.mod.blt
 exact Calls.Name_function_global I.ok.kind hg (Calls.loadGlobal_builtin (by rw [I.ok.glob];exact I.mod.glob.keeps I.bk) hm (by rw [I.ok.blt];exact h1.keeps I.bk) ((h2 x hn).trans hv) h) hd
theorem pe_glob{x:Str}{v:V}{u:Value}{pos:Pos}(hg:Gl X x)(hm:X.mg x=some u)(r:RelV v u)(hd:(x==("__debug__":Str))=false:=by decide):PE X (.Name x pos) (tC v):=
 fun _ _ _ H _ I h=>ld_glob I hg hm ⟨v,H,I,r,h⟩ hd
theorem pe_bltn{x:Str}{v:V}{u:Value}{pos:Pos}(hg:Gl X x)(hm:X.mg x=none)(hv:bootBuiltins x=some u)(r:RelV v u)(hn:x≠"__name__":=by decide)(hd:(x==("__debug__":Str))=false:=by decide):PE X (.Name x pos) (tC v):=
 fun _ _ _ H _ I h=>ld_blt I hg hm hv ⟨v,H,I,r,h⟩ hn hd
variable {a b:Expr} {ta tb:TE} {pos:Pos}
variable {tA tB':TT} {rest:List Expr}
def tAnd(t u:TT):TT:=fun σ H Q=>t σ H fun c H1=>if c=true then u σ H1 Q else Q false H1
def tOr(t u:TT):TT:=fun σ H Q=>t σ H fun c H1=>if c=true then Q true H1 else u σ H1 Q
def tNot(t:TT):TT:=fun σ H Q=>t σ H fun c H1=>Q (!c) H1
theorem pw_and1(ha:PT X a tA):PW X (.BoolOp .And [a] pos) tA:=by
 intro wh pins s σ H Q I h
 refine isTrue_and (thn (ha pins s σ H Q I h) fun c s1 e=>?_)
 cases c with
 | true=>exact isTrue_and_nil e
 | false=>exact e
theorem pw_or1(ha:PT X a tA):PW X (.BoolOp .Or [a] pos) tA:=by
 intro wh pins s σ H Q I h
 refine isTrue_or (thn (ha pins s σ H Q I h) fun c s1 e=>?_)
 cases c with
 | false=>exact isTrue_or_nil e
 | true=>exact e
theorem pw_and(ha:PT X a tA)(hb:PW X (.BoolOp .And (b::rest) pos) tB'):PW X (.BoolOp .And (a::b::rest) pos) (tAnd tA tB'):=by
 intro wh pins s σ H Q I h
 refine isTrue_and (thn (ha pins s σ H _ I h) fun c s1 ⟨H1,I1,q1⟩=>?_)
 cases c with
 | true=>exact hb wh pins s1 σ H1 Q I1 q1
 | false=>exact ⟨H1,I1,q1⟩
theorem pw_or(ha:PT X a tA)(hb:PW X (.BoolOp .Or (b::rest) pos) tB'):PW X (.BoolOp .Or (a::b::rest) pos) (tOr tA tB'):=by
 intro wh pins s σ H Q I h
 refine isTrue_or (thn (ha pins s σ H _ I h) fun c s1 ⟨H1,I1,q1⟩=>?_)
 cases c with
 | true=>exact ⟨H1,I1,q1⟩
 | false=>exact hb wh pins s1 σ H1 Q I1 q1
theorem pt_not(ha:PT X a tA):PT X (.UnaryOp .Not a pos) (tNot tA):=by
 intro pins s σ H Q I h
 exact isTrue_not (ha pins s σ H (fun c H1=>Q (!c) H1) I h)
def tAndV(ta tb:TE):TE:=fun σ H Q=>ta σ H fun x H1=>∃ c,x= .bl c∧if c=true then tb σ H1 Q else Q (.bl false) H1
def tOrV(ta tb:TE):TE:=fun σ H Q=>ta σ H fun x H1=>∃ c,x= .bl c∧if c=true then Q (.bl true) H1 else tb σ H1 Q
theorem pe_one{op}{t:TE}(h:PE X a t):PE X (.BoolOp op [a] pos) t:=fun pins s σ H Q I hw=>BoolOp_one (h pins s σ H Q I hw)
theorem pe_and(ha:PE X a ta)(hb:PE X (.BoolOp .And (b::rest) pos) tb):PE X (.BoolOp .And (a::b::rest) pos) (tAndV ta tb):=by
 intro pins s σ H Q I h
 refine BoolOp_and (thn (ha pins s σ H _ I h) fun v s1 ⟨x,H1,I1,r1,q1⟩=>?_)
 obtain ⟨c,rfl,q1⟩:=q1
 cases r1
 refine wpAny_truthy_bool ?_
 cases c with
 | true=>exact hb pins s1 σ H1 Q I1 q1
 | false=>exact ⟨.bl false,H1,I1,rfl,q1⟩
theorem pe_or(ha:PE X a ta)(hb:PE X (.BoolOp .Or (b::rest) pos) tb):PE X (.BoolOp .Or (a::b::rest) pos) (tOrV ta tb):=by
 intro pins s σ H Q I h
 refine BoolOp_or (thn (ha pins s σ H _ I h) fun v s1 ⟨x,H1,I1,r1,q1⟩=>?_)
 obtain ⟨c,rfl,q1⟩:=q1
 cases r1
 refine wpAny_truthy_bool ?_
 cases c with
 | false=>exact hb pins s1 σ H1 Q I1 q1
 | true=>exact ⟨.bl true,H1,I1,rfl,q1⟩
end
end L2
namespace L2
open PySem PySem.Spec PyProof.Rows
def SqL(K:PySem.W.Frag)(H:Hp)(a:Addr)(xs:List V):Prop:=
 Rd H a (.lst xs)∨
  ∃ (o:Obj) (its:Array Value) (n:Nat),K.lookup a=some o∧o.cls= .type "list"∧o.dict=none∧o.data= .seq its n∧its.size≤sizeLine∧Vals xs its.toList
def SqT(K:PySem.W.Frag)(H:Hp)(a:Addr)(xs:List V):Prop:=
 Rd H a (.tup xs)∨
  ∃ (o:Obj) (its:Array Value) (n:Nat),K.lookup a=some o∧o.cls= .type "tuple"∧o.data= .seq its n∧its.size≤sizeLine∧Vals xs its.toList
def absV:Value→Option V
 | .none=>some .non
 | .bool b=>some (.bl b)
 | .int i _=>some (.int i)
 | .str x _=>some (.str x)
 | .bytes b _=>some (.byt b)
 | .float b _=>some (.flt b)
 | .ref a=>some (.ref a)
 | .type n=>some (.ty n)
 | _=>none
theorem RelV.abs{x:V}{u:Value}(r:RelV x u):absV u=some x:=by
 cases x with
 | non=>cases r;rfl
 | bl _=>cases r;rfl
 | int _=>obtain ⟨t,rfl⟩:=r;rfl
 | str _=>obtain ⟨t,rfl⟩:=r;rfl
 | byt _=>obtain ⟨t,rfl⟩:=r;rfl
 | flt _=>obtain ⟨t,rfl⟩:=r;rfl
 | ref _=>cases r;rfl
 | ty _=>cases r;rfl
theorem RelV.inj{x y:V}{u:Value}(r:RelV x u)(q:RelV y u):x=y:=Option.some.inj (r.abs.symm.trans q.abs)
theorem Vals.inj:∀ {xs ys:List V} {us:List Value},Vals xs us→Vals ys us→xs=ys
 | _,_,_,.nil,.nil=>rfl
 | _,_,_,.cons r t,.cons r' t'=>by rw [r.inj r',Vals.inj t t']
section
variable {X:Cx} {pins:List (Addr×Obj)} {σ:St} {H:Hp} {s:Shared} {a:Addr} {xs ys:List V}
theorem SqL.of{K:PySem.W.Frag}(h:H a=some (.lst xs)):SqL K H a xs:=.inl (.inl h)
theorem SqT.of{K:PySem.W.Frag}(h:H a=some (.tup xs)):SqT K H a xs:=.inl (.inl h)
theorem Inv.list(I:Inv X pins σ H s)(h:SqL X.K H a xs):∃ its:List Value,Vals xs its∧PlainL s.heap a its.toArray∧xs.length≤sizeLine:=by
 rcases h with h | ⟨o,its,n,hk,hc,hd,hs,hz,r⟩
 ·obtain ⟨z,its,n,r,e⟩:=h.ok I.hok
  exact ⟨its,r,⟨_,n,e,rfl,rfl,rfl⟩,z⟩
 ·refine ⟨its.toList,r,⟨o,n,I.kIn a o hk,hc,hd,by simpa using hs⟩,?_⟩
  have e:=r.length
  simp only [Array.length_toList] at e
  omega
theorem Inv.tuple(I:Inv X pins σ H s)(h:SqT X.K H a xs):∃ its:List Value,Vals xs its∧IsTup s.heap a its.toArray∧xs.length≤sizeLine:=by
 rcases h with h | ⟨o,its,n,hk,hc,hs,hz,r⟩
 ·obtain ⟨z,its,r,p⟩:=h.ok I.hok
  exact ⟨its,r,p,z⟩
 ·refine ⟨its.toList,r,⟨o,I.kIn a o hk,hc,n,by simpa using hs⟩,?_⟩
  have e:=r.length
  simp only [Array.length_toList] at e
  omega
theorem Inv.list_inj(I:Inv X pins σ H s)(h:SqL X.K H a xs)(h':SqL X.K H a ys):xs=ys:=by
 obtain ⟨its,r,⟨o,n,e,_,_,d⟩,_⟩:=I.list h
 obtain ⟨its',r',⟨o',n',e',_,_,d'⟩,_⟩:=I.list h'
 rw [e] at e';cases e'
 rw [d] at d'
 injection d' with d1 _
 have:its=its':=by simpa using congrArg Array.toList d1
 subst this
 exact r.inj r'
theorem Inv.tuple_inj(I:Inv X pins σ H s)(h:SqT X.K H a xs)(h':SqT X.K H a ys):xs=ys:=by
 obtain ⟨its,r,⟨o,e,_,n,d⟩,_⟩:=I.tuple h
 obtain ⟨its',r',⟨o',e',_,n',d'⟩,_⟩:=I.tuple h'
 rw [e] at e';cases e'
 rw [d] at d'
 injection d' with d1 _
 have:its=its':=by simpa using congrArg Array.toList d1
 subst this
 exact r.inj r'
end
abbrev Cx.wish(X:Cx)(E:Value→Shared→Prop):Cx:= { X with xe:=E }
abbrev Cx.nox(X:Cx):Cx:=X.wish fun _ _=>False
theorem Cx.Ok.wish{X:Cx}(ok:X.Ok)(E:Value→Shared→Prop):(X.wish E).Ok:=
 ⟨ok.mod,ok.kind,ok.glob,ok.blt,ok.above,ok.inj,ok.has,ok.cab,ok.hd,ok.frames,ok.stk,ok.exf,ok.bs,ok.bsz,ok.noex,ok.exfs,ok.funs,ok.frf⟩
theorem Cx.Ok.unwish{X:Cx}{E:Value→Shared→Prop}(ok:(X.wish E).Ok):X.Ok:=
 ⟨ok.mod,ok.kind,ok.glob,ok.blt,ok.above,ok.inj,ok.has,ok.cab,ok.hd,ok.frames,ok.stk,ok.exf,ok.bs,ok.bsz,ok.noex,ok.exfs,ok.funs,ok.frf⟩
section
variable {X:Cx} {pins:List (Addr×Obj)} {σ:St} {H:Hp} {s:Shared} {E:Value→Shared→Prop}
theorem Inv.wish(I:Inv X pins σ H s)(E:Value→Shared→Prop):Inv (X.wish E) pins σ H s:=⟨I.ok.wish E,I.os,I.bare,I.base,I.loc,I.cell,I.free,I.freeC,I.pin,I.hok,I.len⟩
theorem Inv.unwish(I:Inv (X.wish E) pins σ H s):Inv X pins σ H s:=⟨I.ok.unwish,I.os,I.bare,I.base,I.loc,I.cell,I.free,I.freeC,I.pin,I.hok,I.len⟩
theorem SP.unwish{D:Ends}{f:Flow}{s':Shared}(h:SP (X.wish E) pins D f s'):SP X pins D f s':=by
 cases f with
 | next=>obtain ⟨σ',H',I,q⟩:=h;exact ⟨σ',H',I.unwish,q⟩
 | brk=>obtain ⟨σ',H',I,q⟩:=h;exact ⟨σ',H',I.unwish,q⟩
 | cont=>obtain ⟨σ',H',I,q⟩:=h;exact ⟨σ',H',I.unwish,q⟩
 | ret u=>obtain ⟨v,σ',H',I,r,q⟩:=h;exact ⟨v,σ',H',I.unwish,r,q⟩
theorem PE.nox{e:Expr}{t:TE}(h:PE X.nox e t):PE X e t:=fun pins s σ H Q I hw=>
 wpAny_mono (h pins s σ H Q (I.wish _) hw) (fun _ _ ⟨v,H',I',r,q⟩=>⟨v,H',I'.unwish,r,q⟩) fun _ _ z=>False.elim z
theorem PT.nox{e:Expr}{t:TT}(h:PT X.nox e t):PT X e t:=fun pins s σ H Q I hw=>
 wpAny_mono (h pins s σ H Q (I.wish _) hw) (fun _ _ ⟨H',I',q⟩=>⟨H',I'.unwish,q⟩) fun _ _ z=>False.elim z
theorem PSs.nox{st:List Stmt}{t:TS}(h:PSs X.nox st t):PSs X st t:=fun pins s σ H D I hw=>
 wpAny_mono (h pins s σ H D (I.wish _) hw) (fun _ _ q=>q.unwish) fun _ _ z=>False.elim z
end
section
variable {X:Cx} {st:Stmt} {rest:List Stmt} {t u:TS} {e:Expr} {te:TE} {pos:Pos}
def tNext:TS:=fun D σ H=>D.nx σ H
def tSeq(t u:TS):TS:=fun D σ H=>t { D with nx:=u D } σ H
theorem pss_nil:PSs X [] tNext:=fun _ _ σ H _ I h=>wpAny_execs_nil ⟨σ,H,I,h⟩
theorem pss_cons(h1:PS X st t)(h2:PSs X rest u):PSs X (st::rest) (tSeq t u):=by
 intro pins s σ H D I h
 refine wpAny_execs_cons (thn (h1 pins s σ H { D with nx:=u D } I h) fun f s1 q=>?_)
 cases f with
 | next=>
  obtain ⟨σ',H',I',q⟩:=q
  exact h2 pins s1 σ' H' D I' q
 | ret v=>exact q
 | brk=>exact q
 | cont=>exact q
theorem pss_one(h1:PS X st t):PSs X [st] t:=by
 intro pins s σ H D I h
 refine wpAny_execs_cons (thn (h1 pins s σ H D I h) fun f s1 q=>?_)
 cases f with
 | next=>exact wpAny_execs_nil q
 | ret v=>exact q
 | brk=>exact q
 | cont=>exact q
theorem Inv.quiet{pins:List (Addr×Obj)}{σ:St}{H:Hp}{s:Shared}(I:Inv X pins σ H s):interactive X.env=false:=by simp [interactive,I.ok.kind]
def tDrop(te:TE):TS:=fun D σ H=>te σ H fun _ H1=>D.nx σ H1
theorem ps_expr(he:PE X e te)(hs:swapsWith e none pos.line X.env=pure false:=by rfl):PS X (.Expr e pos) (tDrop te):=by
 intro pins s σ H D I h
 exact wpAny_Expr_any (thn (he pins s σ H _ I h) fun v s1 ⟨x,H1,I1,r1,q1⟩=>⟨σ,H1,I1,q1⟩) I.quiet hs
def tRet(te:TE):TS:=fun D σ H=>te σ H D.rt
theorem ps_ret(he:PE X e te):PS X (.Return (some e) pos) (tRet te):=by
 intro pins s σ H D I h
 exact wpAny_Return_some (thn (he pins s σ H _ I h) fun v s1 ⟨x,H1,I1,r1,q1⟩=>⟨x,σ,H1,I1,r1,q1⟩)
def tIfS(c:TT)(t u:TS):TS:=fun D σ H=>c σ H fun b H1=>if b=true then t D σ H1 else u D σ H1
theorem ps_if{c:Expr}{a b:List Stmt}{tc:TT}(hc:PT X c tc)(ha:PSs X a t)(hb:PSs X b u):PS X (.If c a b pos) (tIfS tc t u):=by
 intro pins s σ H D I h
 refine wpAny_If (thn (hc pins s σ H _ I h) fun d s1 ⟨H1,I1,q1⟩=>?_)
 cases d with
 | true=>exact ha pins s1 σ H1 D I1 q1
 | false=>exact hb pins s1 σ H1 D I1 q1
end
abbrev TG:=V→St→Hp→(St→Hp→Prop)→Prop
def PG(X:Cx)(target:Expr)(t:TG):Prop:=
 ∀ (pins:List (Addr×Obj)) (s:Shared) (σ:St) (H:Hp) (v:V) (u:Value) (Q:St→Hp→Prop),Inv X pins σ H s→RelV v u→t v σ H Q→
  wpAny (model X.prog X.w) X.A (assign target X.env u) (fun _ s'=>∃ σ' H',Inv X pins σ' H' s'∧Q σ' H') X.xe s
section
variable {X:Cx} {pos:Pos}
def gName(i:Nat):TG:=fun v σ H Q=>Q (σ.set i (some v)) H
theorem pg_name{i:Nat}{x:Str}(hN:X.N.Nodup)(hi:X.N[i]? =some x)(hx:Loc X.env.scope x)(hf:X.fn x=true∨X.env.scope.names.lookup x=some .local:=by first | exact .inl rfl | exact .inr rfl | assumption):PG X (.Name x pos) (gName i):=by
 intro pins s σ H v u Q I r h
 exact wpAny_assign_Name (store_ok I hN hi hx r (fun s' I'=>⟨_,H,I',h⟩) hf)
def tAsg(te:TE)(g:TG):TS:=fun D σ H=>te σ H fun x H1=>g x σ H1 D.nx
theorem ps_set{i:Nat}{x:Str}{e:Expr}{te:TE}{pos':Pos}(hN:X.N.Nodup)(hi:X.N[i]? =some x)(hx:Loc X.env.scope x)(he:PE X e te)(hs:swapsWith e (some (.Name x pos')) pos.line X.env=pure false:=by rfl)(hf:X.fn x=true∨X.env.scope.names.lookup x=some .local:=by first | exact .inl rfl | exact .inr rfl | assumption):
  PS X (.Assign [.Name x pos'] e pos) (tAsg te (gName i)):=by
 intro pins s σ H D I h
 refine wpAny_Assign_Name (thn (he pins s σ H _ I h) fun v s1 ⟨y,H1,I1,r1,q1⟩=>?_) hs
 exact store_ok I1 hN hi hx r1 (fun s2 I2=>⟨_,H1,I2,q1⟩) hf
end
section
variable {X:Cx} {pos:Pos}
def tWhile(c:TT)(tb:TS):TS:=fun D σ H=>∃ W:Nat→St→Hp→Prop,(∃ m,W m σ H)∧∀ m σ H,W m σ H→
 c σ H fun b H1=>if b=true then ∃ N:St→Hp→Prop,(∀ σ' H',N σ' H'→∃ m',m'<m∧W m' σ' H')∧tb { D with nx:=N,ct:=N,bk:=D.nx } σ H1 else D.nx σ H1
theorem ps_while{c:Expr}{body:List Stmt}{tc:TT}{tb:TS}(hp:PassesOwn (model X.prog X.w) X.A X.env X.xe)(hc:PT X c tc)(hb:PSs X body tb):PS X (.While c body [] pos) (tWhile tc tb):=by
 intro pins s σ H D I h
 obtain ⟨W,⟨m0,w0⟩,turn⟩:=h
 refine wpAny_While (codeAny_whileLoop (fun n s'=>∃ σ' H',Inv X pins σ' H' s'∧W n σ' H') ?_ m0 ⟨σ,H,I,w0⟩)
 rintro n s1 ⟨σ1,H1,I1,w1⟩
 refine wpAny_passesOwn hp (thn (hc pins s1 σ1 H1 _ I1 (turn n σ1 H1 w1)) fun b s2 ⟨H2,I2,q2⟩=>?_)
 cases b with
 | true=>
  obtain ⟨N,hN,q2⟩:=q2
  rw [if_pos rfl]
  refine wpAny_passesOwn hp (thn (hb pins s2 σ1 H2 _ I2 q2) fun f s3 q3=>?_)
  cases f with
  | next=>
   obtain ⟨σ3,H3,I3,n3⟩:=q3
   obtain ⟨m',hm,w3⟩:=hN σ3 H3 n3
   exact ⟨m',hm,σ3,H3,I3,w3⟩
  | cont=>
   obtain ⟨σ3,H3,I3,n3⟩:=q3
   obtain ⟨m',hm,w3⟩:=hN σ3 H3 n3
   exact ⟨m',hm,σ3,H3,I3,w3⟩
  | brk=>exact q3
  | ret v=>exact q3
 | false=>
  rw [if_neg Bool.false_ne_true]
  exact wpAny_execs_nil ⟨σ1,H2,I2,q2⟩
end
structure It where
 go:Nat→Hp→Prop
 yld:Nat→Hp→V→Hp→Prop
 stop:Nat→Hp→Prop
def FpOk(X:Cx)(pins:List (Addr×Obj))(H:Hp)(b:Addr):Prop:=
 H b=none∧b≠X.env.locals∧b∉X.fs∧(b∈X.ex∨X.s₀.heap.objs.size≤b)∧(∀ x c,X.env.cells.lookup x=some c→c≠b)∧∀ p∈X.pn++pins,p.1≠b
theorem Inv.fpOk{X:Cx}{pins:List (Addr×Obj)}{σ:St}{H H':Hp}{s:Shared}{b:Addr}(I:Inv X pins σ H s)(hb:s.heap.objs.size≤b)(hn:H' b=none):FpOk X pins H' b:=by
 refine ⟨hn,Nat.ne_of_gt (Nat.lt_of_lt_of_le I.lt hb),I.nofs hb,.inr (Nat.le_trans I.sz hb),fun x c e z=>?_,fun p hp z=>?_⟩
 ·obtain ⟨v,q⟩:=I.cell x c e
  exact absurd (Nat.lt_of_lt_of_le q.lt (by rw [z];exact hb)) (Nat.lt_irrefl _)
 ·exact absurd (Nat.lt_of_lt_of_le (Heap.lt_size (I.pin p hp).1) (by rw [z];exact hb)) (Nat.lt_irrefl _)
structure Turn(P:Program)(w:World)(K:PySem.W.Frag)(tg:Expr)(J:It)(fp:List Addr)(it:Addr)(tn:Nat→Heap→Prop):Prop where
 mem:it∈fp
 obj:∀ i h,tn i h→∀ b∈fp,∃ o,h.get? b=some o∧∀ v,o.data≠.cell v
 keep:∀ i h h',tn i h→(∀ b∈fp,∀ o,h.get? b=some o→h'.get? b=some o)→tn i h'
 item:∀ (X:Cx),X.prog=P→X.w=w→X.K=K→X.calm=true→∀ (i:Nat) (pins:List (Addr×Obj)) (s:Shared) (σ:St) (H:Hp) (E:Value→Shared→Prop),Inv X pins σ H s→(∀ b∈fp,FpOk X pins H b)→tn i s.heap→J.go i H→
  wpAny (model P w) X.A (pyNext (.ref it)) (fun r s1=>∃ u,r=some u∧
   wpAny (model P w) X.A (letOwnedTupleGo tg (.ref it) u) (fun _ s2=>∃ x H',Inv X pins σ H' s2∧RelV x u∧J.yld i H x H'∧tn (i+1) s2.heap∧∀ b∈fp,H' b=none) E s1) E s
 done:∀ (X:Cx),X.prog=P→X.w=w→X.K=K→X.calm=true→∀ (i:Nat) (pins:List (Addr×Obj)) (s:Shared) (σ:St) (H:Hp) (E:Value→Shared→Prop),Inv X pins σ H s→(∀ b∈fp,FpOk X pins H b)→tn i s.heap→J.stop i H→
  wpAny (model P w) X.A (pyNext (.ref it)) (fun r s1=>r=none∧Inv X pins σ H s1) E s
 self:∀ (A:Around) (i:Nat) (s:Shared) (Q:Value→Shared→Prop) (E:Value→Shared→Prop),tn i s.heap→Q (.ref it) s→wpAny (model P w) A (pyIter (.ref it)) Q E s
abbrev TI:=St→Hp→(It→Hp→Prop)→Prop
def PIE(X:Cx)(pins:List (Addr×Obj))(σ:St)(tg:Expr)(R:It→Hp→Prop)(itv:Value)(s2:Shared):Prop:=
 ∃ (it:Addr) (fp:List Addr) (tn:Nat→Heap→Prop) (J:It) (H':Hp),itv= .ref it∧Inv X pins σ H' s2∧Turn X.prog X.w X.K tg J fp it tn∧tn 0 s2.heap∧(∀ b∈fp,FpOk X pins H' b)∧R J H'
def PI(X:Cx)(tg iter:Expr)(wi:TI):Prop:=
 ∀ (pins:List (Addr×Obj)) (s:Shared) (σ:St) (H:Hp) (R:It→Hp→Prop),Inv X pins σ H s→wi σ H R→
  wpAny (model X.prog X.w) X.A (eval iter X.env) (fun v s1=>wpAny (model X.prog X.w) X.A (pyIter v) (PIE X pins σ tg R) X.xe s1) X.xe s
theorem go_of{M:Model}{A:Around}{E:Value→Shared→Prop}{s:Shared}{tg:Expr}{it:Addr}{u:Value}{o:Obj}{n:String}{vs:Array Value}{Q:Unit→Shared→Prop}(ho:s.heap.get? it=some o)(hc:o.cls= .type n)(hd:o.data= .fields vs)
    (hn: ["enumerate","zip","dict_itemiterator","dict_reverseitemiterator","odict_iterator","itertools.zip_longest","itertools.pairwise"].contains n=false) (hQ:Q () s):wpAny M A (letOwnedTupleGo tg (.ref it) u) Q E s:=by
  unfold letOwnedTupleGo
  cases tg<;>first
    | exact wpAny_pure hQ
    | (cases u<;>first
        | exact wpAny_pure hQ
        | (refine wpAny_bind (wpAny_load ho ?_)
           rw [hc,hd]
           show wpAny M A (if (["enumerate","zip","dict_itemiterator","dict_reverseitemiterator","odict_iterator","itertools.zip_longest","itertools.pairwise"].contains n&&vs[0]? ==some (rawInt _))=true then _ else _) Q E s
           rw [if_neg (by intro h;rw [hn,Bool.false_and] at h;cases h)]
           exact wpAny_pure hQ))
def Itl(K:PySem.W.Frag)(a:Addr):It:=
 ⟨fun i H=>∃ xs x,SqL K H a xs∧xs[i]? =some x,fun i H x H'=>H'=H∧∀ xs,SqL K H a xs→xs[i]? =some x,fun i H=>∃ xs,SqL K H a xs∧xs.length≤i⟩
def Itt(K:PySem.W.Frag)(a:Addr):It:=
 ⟨fun i H=>∃ xs x,SqT K H a xs∧xs[i]? =some x,fun i H x H'=>H'=H∧∀ xs,SqT K H a xs→xs[i]? =some x,fun i H=>∃ xs,SqT K H a xs∧xs.length≤i⟩
def Itr(lo:Int)(n:Nat):It:=⟨fun i _=>i<n,fun i H x H'=>H'=H∧x= .int (lo+i),fun i _=>n≤i⟩
theorem turn_list{P:Program}{w:World}{K:PySem.W.Frag}{tg:Expr}(a it:Addr):Turn P w K tg (Itl K a) [it] it (fun i h=>h.IsListIter it a i) where
 mem:=by simp
 obj:=fun i h st b hb=>by
  have e:b=it:=by simpa using hb
  subst e
  obtain ⟨o,e,c,d⟩:=st
  exact ⟨o,e,fun v z=>by rw [d] at z;cases z⟩
 keep:=fun i h h' st k=>st.at fun o e=>k it (by simp) o e
 item:=by
  intro X hP hw hK hc i pins s σ H E I hf st hg
  subst hP hw hK
  obtain ⟨xs,x,hq,hx⟩:=hg
  obtain ⟨its,rv,p,hz⟩:=I.list hq
  obtain ⟨u,hu,ru⟩:=rv.get hx
  obtain ⟨f0,f1,f2,f3,f4,f5⟩:=hf it (by simp)
  refine wpAny_pyNext_list_item st p.isList (x:=u) (by simpa using hu) fun h' st' sb=>?_
  have I1:Inv X pins σ H { s with heap:=h' }:=I.turned (t':=s.toks) (fun b o hb e=>(sb.2 b hb).trans e) f0 f1 f3 f4 f5
  obtain ⟨o,e,c,d⟩:=id st'
  exact ⟨u,rfl,go_of (s:= { s with heap:=h' }) e c d (by decide) ⟨x,H,I1,ru,⟨rfl,fun ys hy=>by rw [I.list_inj hy hq];exact hx⟩,st',fun b hb=>(hf b hb).1⟩⟩
 done:=by
  intro X hP hw hK hc i pins s σ H E I hf st hg
  subst hP hw hK
  obtain ⟨xs,hq,hx⟩:=hg
  obtain ⟨its,rv,p,hz⟩:=I.list hq
  obtain ⟨f0,f1,f2,f3,f4,f5⟩:=hf it (by simp)
  have hl:=rv.length
  exact wpAny_pyNext_list_end (I.ok.hd hc) st p.isList (by simp;omega) fun h' eb=>⟨rfl,I.turned (t':=s.toks) (fun b o hb e=>eb b o hb e) f0 f1 f3 f4 f5⟩
 self:=fun _ _ _ _ _ st h=>wpAny_pyIter_listiter st h
theorem turn_tuple{P:Program}{w:World}{K:PySem.W.Frag}{tg:Expr}(a it:Addr):Turn P w K tg (Itt K a) [it] it (fun i h=>h.IsTupleIter it a i) where
 mem:=by simp
 obj:=fun i h st b hb=>by
  have e:b=it:=by simpa using hb
  subst e
  obtain ⟨o,e,c,d⟩:=st
  exact ⟨o,e,fun v z=>by rw [d] at z;cases z⟩
 keep:=fun i h h' st k=>st.at fun o e=>k it (by simp) o e
 item:=by
  intro X hP hw hK hc i pins s σ H E I hf st hg
  subst hP hw hK
  obtain ⟨xs,x,hq,hx⟩:=hg
  obtain ⟨its,rv,p,hz⟩:=I.tuple hq
  obtain ⟨u,hu,ru⟩:=rv.get hx
  obtain ⟨f0,f1,f2,f3,f4,f5⟩:=hf it (by simp)
  refine wpAny_pyNext_tuple_item st (show s.heap.IsTuple a its.toArray from p) (x:=u) (by simpa using hu) fun h' st' sb=>?_
  have I1:Inv X pins σ H { s with heap:=h' }:=I.turned (t':=s.toks) (fun b o hb e=>(sb.2 b hb).trans e) f0 f1 f3 f4 f5
  obtain ⟨o,e,c,d⟩:=id st'
  exact ⟨u,rfl,go_of (s:= { s with heap:=h' }) e c d (by decide) ⟨x,H,I1,ru,⟨rfl,fun ys hy=>by rw [I.tuple_inj hy hq];exact hx⟩,st',fun b hb=>(hf b hb).1⟩⟩
 done:=by
  intro X hP hw hK hc i pins s σ H E I hf st hg
  subst hP hw hK
  obtain ⟨xs,hq,hx⟩:=hg
  obtain ⟨its,rv,p,hz⟩:=I.tuple hq
  obtain ⟨f0,f1,f2,f3,f4,f5⟩:=hf it (by simp)
  have hl:=rv.length
  exact wpAny_pyNext_tuple_end (I.ok.hd hc) st (show s.heap.IsTuple a its.toArray from p) (by simp;omega) fun h' eb=>⟨rfl,I.turned (t':=s.toks) (fun b o hb e=>eb b o hb e) f0 f1 f3 f4 f5⟩
 self:=fun _ _ _ _ _ st h=>wpAny_pyIter_tupleiter st h
theorem turn_range{P:Program}{w:World}{K:PySem.W.Frag}{tg:Expr}(it:Addr)(lo:Int)(n:Nat):Turn P w K tg (Itr lo n) [it] it (fun i h=>IsRangeIter h it (lo+(i:Nat) * 1) ((n:Int) - (i:Nat)) 1) where
 mem:=by simp
 obj:=fun i h st b hb=>by
  have e:b=it:=by simpa using hb
  subst e
  exact ⟨_,st,fun v z=>by
   have z':Data.fields _=Data.cell v:=z
   cases z'⟩
 keep:=fun i h h' st k=>k it (by simp) _ st
 item:=by
  intro X hP hw hK hc i pins s σ H E I hf st hg
  subst hP hw hK
  obtain ⟨f0,f1,f2,f3,f4,f5⟩:=hf it (by simp)
  have W:=Walks.range (prog:=X.prog) (w:=X.w) (I.ok.hd hc) it lo 1 n
  refine W.item i s _ _ hg st fun v h' tk hv st' kk=>?_
  obtain ⟨t,rfl⟩:=hv
  have I1:Inv X pins σ H { s with heap:=h',toks:=tk }:=I.turned (fun b o hb e=>kk b o (by simpa using hb) e) f0 f1 f3 f4 f5
  refine ⟨_,rfl,go_of (s:= { s with heap:=h',toks:=tk }) (n:="range_iterator") st' rfl rfl (by decide) ⟨.int (lo+i),H,I1,⟨t,?_⟩,⟨rfl,rfl⟩,st',fun b hb=>(hf b hb).1⟩⟩
  rw [Int.mul_one]
 done:=by
  intro X hP hw hK hc i pins s σ H E I hf st hg
  subst hP hw hK
  obtain ⟨f0,f1,f2,f3,f4,f5⟩:=hf it (by simp)
  exact wpAny_pyNext_range_end (I.ok.hd hc) st (by have:n≤i:=hg;omega) fun h' eb=>⟨rfl,I.turned (t':=s.toks) (fun b o hb e=>eb b o hb e) f0 f1 f3 f4 f5⟩
 self:=fun _ _ _ _ _ st h=>wpAny_pyIter_rangeiter st h
end L2
namespace L2
open PySem PySem.Spec PyProof.Rows
section
variable {X:Cx} {tg:Expr}
def iList(K:PySem.W.Frag)(tl:TE):TI:=fun σ H R=>tl σ H fun x H1=>∃ a,x= .ref a∧(∃ xs,SqL K H1 a xs)∧R (Itl K a) H1
def iTup(K:PySem.W.Frag)(tl:TE):TI:=fun σ H R=>tl σ H fun x H1=>∃ a,x= .ref a∧(∃ xs,SqT K H1 a xs)∧R (Itt K a) H1
theorem pi_list{l:Expr}{tl:TE}(hl:PE X l tl):PI X tg l (iList X.K tl):=by
 intro pins s σ H R I h
 refine thn (hl pins s σ H _ I h) fun v s1 ⟨x,H1,I1,r1,q1⟩=>?_
 obtain ⟨a,e,⟨xs,hq⟩,q⟩:=q1
 subst e
 cases r1
 obtain ⟨its,rv,p,hz⟩:=I1.list hq
 refine wpAny_pyIter_list p.isList ?_
 refine ⟨s1.heap.objs.size,[s1.heap.objs.size],_,_,H1,rfl,I1.kept (t':=s1.toks) fun b o e=>Heap.get?_push_of_some _ e,turn_list a _,⟨_,Heap.get?_push_size _ rfl,rfl,rfl⟩,fun b hb=>?_,q⟩
 have e:b=s1.heap.objs.size:=by simpa using hb
 subst e
 exact I1.fpOk (Nat.le_refl _) (I1.hok.fresh (Nat.le_refl _))
theorem pi_tup{l:Expr}{tl:TE}(hl:PE X l tl):PI X tg l (iTup X.K tl):=by
 intro pins s σ H R I h
 refine thn (hl pins s σ H _ I h) fun v s1 ⟨x,H1,I1,r1,q1⟩=>?_
 obtain ⟨a,e,⟨xs,hq⟩,q⟩:=q1
 subst e
 cases r1
 obtain ⟨its,rv,p,hz⟩:=I1.tuple hq
 refine wpAny_pyIter_tuple (show s1.heap.IsTuple a its.toArray from p) ?_
 refine ⟨s1.heap.objs.size,[s1.heap.objs.size],_,_,H1,rfl,I1.kept (t':=s1.toks) fun b o e=>Heap.get?_push_of_some _ e,turn_tuple a _,⟨_,Heap.get?_push_size _ rfl,rfl,rfl⟩,fun b hb=>?_,q⟩
 have e:b=s1.heap.objs.size:=by simpa using hb
 subst e
 exact I1.fpOk (Nat.le_refl _) (I1.hok.fresh (Nat.le_refl _))
theorem range_it{pins:List (Addr×Obj)}{σ:St}{H:Hp}{s:Shared}{R:It→Hp→Prop}{E:Value→Shared→Prop}{lo hi:Int}{t u v:Tok}{tk:Nat}(I:Inv X pins σ H s)(h1: -(2 ^ 62)≤lo)(h2:lo<2 ^ 62)(h3: -(2 ^ 62)≤hi)(h4:hi<2 ^ 62)
  (q:R (Itr lo (hi - lo).toNat) H):wpAny (model X.prog X.w) X.A (pyIter (.ref s.heap.objs.size)) (PIE X pins σ tg R) E { s with heap:=s.heap.push { cls:=.type "range",data:=.fields #[.int lo t,.int hi u,.int 1 v] },toks:=tk }:=by
 refine wpAny_pyIter_range (IsRange.new ..) (small_one h1 h2 h3 h4) ?_
 have I1:Inv X pins σ H { s with heap:=s.heap.push { cls:=.type "range",data:=.fields #[.int lo t,.int hi u,.int 1 v] },toks:=tk }:=I.kept fun b o e=>Heap.get?_push_of_some _ e
 refine ⟨(s.heap.push { cls:=.type "range",data:=.fields #[.int lo t,.int hi u,.int 1 v] }).objs.size,[(s.heap.push { cls:=.type "range",data:=.fields #[.int lo t,.int hi u,.int 1 v] }).objs.size],_,_,H,rfl,
  I1.kept (t':=tk) fun b o e=>Heap.get?_push_of_some _ e,turn_range _ lo (hi - lo).toNat,?_,fun b hb=>?_,q⟩
 ·have e1:lo+((0:Nat):Int) * 1=lo:=by simp
  have e2:(((hi - lo).toNat:Nat):Int) - ((0:Nat):Int)=Builtin.Range.rangeSize lo hi 1:=by rw [rangeSize_one];split<;>omega
  show IsRangeIter _ _ (lo+((0:Nat):Int) * 1) ((((hi - lo).toNat:Nat):Int) - ((0:Nat):Int)) 1
  rw [e1,e2]
  exact Heap.get?_push_size _ rfl
 ·have e:b=(s.heap.push { cls:=.type "range",data:=.fields #[.int lo t,.int hi u,.int 1 v] }).objs.size:=by simpa using hb
  subst e
  exact I1.fpOk (Nat.le_refl _) (I1.hok.fresh (Nat.le_refl _))
def iRng1(ta:TA):TI:=fun σ H R=>ta σ H fun vs H1=>∃ j:Int,vs= [.int j]∧ -(2 ^ 62)≤j∧j<2 ^ 62∧R (Itr 0 j.toNat) H1
theorem pi_range1{a:Expr}{ta:TA}{p pos:Pos}(hg:Gl X "range")(hm:X.mg "range"=none)(ha:PA X [a] ta)(hs:starEach [a] X.env= [(false,eval a X.env)]:=by rfl):PI X tg (.Call (.Name "range" p) [a] [] pos) (iRng1 ta):=by
 intro pins s σ H R I h
 refine Call_ (ld_blt I hg hm boot_range (PyProof.Rows.callWith_type1 (thn (ha pos pins s σ H _ I h) fun us s1 ⟨vs,H1,I1,r1,q1⟩=>?_) hs rfl))
 obtain ⟨j,e,q1,q2,q⟩:=q1
 subst e
 cases r1 with
 | cons r rr=>
  cases rr
  obtain ⟨t,rfl⟩:=r
  exact call_range_1 (range_it I1 (by omega) (by omega) q1 q2 (by simpa using q))
def tFor(wi:TI)(g:TG)(tb:TS):TS:=fun D σ H=>wi σ H fun J H1=>∃ W:Nat→Nat→St→Hp→Prop,(∃ m,W 0 m σ H1)∧∀ i m σ H,W i m σ H→
 (J.stop i H∧D.nx σ H)∨(J.go i H∧∃ N:St→Hp→Prop,(∀ σ' H',N σ' H'→∃ m',m'<m∧W (i+1) m' σ' H')∧∀ x H',J.yld i H x H'→g x σ H' fun σ2 H2=>tb { D with nx:=N,ct:=N,bk:=D.nx } σ2 H2)
def pinsAt(fp:List Addr)(h:Heap):List (Addr×Obj):=fp.filterMap fun b=>(h.get? b).map fun o=>(b,o)
theorem mem_pinsAt{fp:List Addr}{h:Heap}{b:Addr}{o:Obj}(hb:b∈fp)(e:h.get? b=some o):(b,o)∈pinsAt fp h:=List.mem_filterMap.mpr ⟨b,hb,by rw [e];rfl⟩
theorem of_pinsAt{fp:List Addr}{h:Heap}{p:Addr×Obj}(hp:p∈pinsAt fp h):p.1∈fp∧h.get? p.1=some p.2:=by
 obtain ⟨b,hb,e⟩:=List.mem_filterMap.mp hp
 cases q:h.get? b with
 | none=>rw [q] at e;cases e
 | some o=>
  rw [q] at e
  have e':(b,o)=p:=Option.some.inj e
  subst e'
  exact ⟨hb,q⟩
theorem Inv.pinned{pins:List (Addr×Obj)}{σ:St}{H:Hp}{s:Shared}{fp:List Addr}(I:Inv X pins σ H s)(hf:∀ b∈fp,FpOk X pins H b)(ho:∀ b∈fp,∃ o,s.heap.get? b=some o∧∀ v,o.data≠.cell v):Inv X (pins++pinsAt fp s.heap) σ H s:=
 I.pins_of fun p hp=>(List.mem_append.mp hp).elim (fun z=>I.pin p (List.mem_append_right _ z)) fun z=>by
  obtain ⟨hb,e⟩:=of_pinsAt z
  obtain ⟨f0,f1,f2,_⟩:=hf p.1 hb
  obtain ⟨o,e',d⟩:=ho p.1 hb
  rw [e] at e';cases e'
  exact ⟨e,f0,f1,f2,d⟩
theorem Inv.unpinned{pins pl:List (Addr×Obj)}{σ:St}{H:Hp}{s:Shared}(I:Inv X (pins++pl) σ H s):Inv X pins σ H s:=I.pins_of fun p hp=>I.pin p (List.mem_append_right _ (List.mem_append_left _ hp))
theorem ps_for{iter:Expr}{body:List Stmt}{wi:TI}{g:TG}{tb:TS}{pos:Pos}(hp:PassesOwn (model X.prog X.w) X.A X.env X.xe)(hc:X.calm=true)(hi:PI X tg iter wi)(hg:PG X tg g)(hb:PSs X body tb)
  (hs:∀ x,foldedSetIterable iter X.env x=pure x:=by intro _;rfl):PS X (.For tg iter body [] pos) (tFor wi g tb):=by
 intro pins s σ H D I h
 refine wpAny_For (thn (hi pins s σ H _ I h) fun v s1 h1=>thn h1 fun itv s2 h2=>?_) hs
 obtain ⟨it,fp,tn,J,H2,e,I2,T,st2,f2,W,⟨m0,w0⟩,turn⟩:=h2
 subst e
 have stat:∀ {H':Hp},(∀ b∈fp,H' b=none)→∀ b∈fp,FpOk X pins H' b:=fun hn b hb=>⟨hn b hb,(f2 b hb).2⟩
 refine codeAny_forLoop_any (fun n s'=>∃ i σ' H',Inv X pins σ' H' s'∧tn i s'.heap∧(∀ b∈fp,H' b=none)∧W i n σ' H') ?_ m0 ⟨0,σ,H2,I2,st2,fun b hb=>(f2 b hb).1,w0⟩
 rintro n s3 ⟨i,σ3,H3,I3,st3,fr3,w3⟩
 rcases turn i n σ3 H3 w3 with ⟨stop,qn⟩ | ⟨go,N,hN,step⟩
 ·refine wpAny_passesOwn hp (thn (T.done X rfl rfl rfl hc i pins s3 σ3 H3 X.xe I3 (stat fr3) st3 stop) fun r s4 ⟨hr,I4⟩=>?_)
  subst hr
  exact wpAny_execs_nil ⟨σ3,H3,I4,qn⟩
 ·refine wpAny_passesOwn hp (thn (T.item X rfl rfl rfl hc i pins s3 σ3 H3 X.xe I3 (stat fr3) st3 go) fun r s4 ⟨u,hr,h4⟩=>?_)
  subst hr
  refine wpAny_passesOwn hp (thn h4 fun _ s5 ⟨x,H5,I5,r5,y5,st5,fr5⟩=>?_)
  have I5':=I5.pinned (stat fr5) (T.obj _ _ st5)
  refine wpAny_passesOwn hp (thn (hg _ s5 σ3 H5 x u _ I5' r5 (step x H5 y5)) fun _ s6 ⟨σ6,H6,I6,q6⟩=>?_)
  refine wpAny_passesOwn hp (thn (hb _ s6 σ6 H6 _ I6 q6) fun f s7 q7=>?_)
  have again:∀ {σ7:St} {H7:Hp},Inv X (pins++pinsAt fp s5.heap) σ7 H7 s7→N σ7 H7→∃ m,m<n∧∃ i σ' H',Inv X pins σ' H' s7∧tn i s7.heap∧(∀ b∈fp,H' b=none)∧W i m σ' H':=fun {σ7 H7} I7 n7=>by
   obtain ⟨m',hm,w7⟩:=hN σ7 H7 n7
   refine ⟨m',hm,i+1,σ7,H7,I7.unpinned,T.keep _ _ _ st5 fun b hb o e=>(I7.pin (b,o) (List.mem_append_right _ (List.mem_append_right _ (mem_pinsAt hb e)))).1,fun b hb=>?_,w7⟩
   obtain ⟨o,e,d⟩:=T.obj _ _ st5 b hb
   exact (I7.pin (b,o) (List.mem_append_right _ (List.mem_append_right _ (mem_pinsAt hb e)))).2.1
  cases f with
  | next=>obtain ⟨σ7,H7,I7,n7⟩:=q7;exact again I7 n7
  | cont=>obtain ⟨σ7,H7,I7,n7⟩:=q7;exact again I7 n7
  | brk=>obtain ⟨σ7,H7,I7,q7⟩:=q7;exact ⟨σ7,H7,I7.unpinned,q7⟩
  | ret v=>obtain ⟨x7,σ7,H7,I7,r7,q7⟩:=q7;exact ⟨x7,σ7,H7,I7.unpinned,r7,q7⟩
end
end L2
namespace L2
open PySem PySem.Spec PyProof.Rows
abbrev R2:=V→V→Hp→VK→Prop
def OpR(X:Cx)(f:Value→Value→Sem Value)(r:R2):Prop:=
 ∀ (pins:List (Addr×Obj)) (s:Shared) (σ:St) (H:Hp) (x y:V) (v u:Value) (Q:VK),Inv X pins σ H s→RelV x v→RelV y u→r x y H Q→
  wpAny (model X.prog X.w) X.A (f v u) (EP X pins σ Q) X.xe s
def UnR(X:Cx)(f:Value→Sem Value)(r:V→Hp→VK→Prop):Prop:=
 ∀ (pins:List (Addr×Obj)) (s:Shared) (σ:St) (H:Hp) (x:V) (v:Value) (Q:VK),Inv X pins σ H s→RelV x v→r x H Q→
  wpAny (model X.prog X.w) X.A (f v) (EP X pins σ Q) X.xe s
def CallR(X:Cx)(f:Value)(r:List V→Hp→VK→Prop):Prop:=
 ∀ (pins:List (Addr×Obj)) (s:Shared) (σ:St) (H:Hp) (xs:List V) (us:List Value) (Q:VK),Inv X pins σ H s→Vals xs us→r xs H Q→
  wpAny (model X.prog X.w) X.A (call f us) (EP X pins σ Q) X.xe s
def TruR(X:Cx)(r:V→Hp→(Bool→Hp→Prop)→Prop):Prop:=
 ∀ (pins:List (Addr×Obj)) (s:Shared) (σ:St) (H:Hp) (x:V) (v:Value) (Q:Bool→Hp→Prop),Inv X pins σ H s→RelV x v→r x H Q→
  wpAny (model X.prog X.w) X.A (truthy v) (TP X pins σ Q) X.xe s
def tOp(r:R2)(ta tb:TE):TE:=fun σ H Q=>ta σ H fun x H1=>tb σ H1 fun y H2=>r x y H2 Q
def tUn(r:V→Hp→VK→Prop)(ta:TE):TE:=fun σ H Q=>ta σ H fun x H1=>r x H1 Q
def rI(C:Int→Int→Prop)(g:Int→Int→V):R2:=fun x y H Q=>∃ i j,x= .int i∧y= .int j∧C i j∧Q (g i j) H
def rI0(g:Int→Int→V):R2:=fun x y H Q=>∃ i j,x= .int i∧y= .int j∧Q (g i j) H
def rU(g:Int→V):V→Hp→VK→Prop:=fun x H Q=>∃ i,x= .int i∧Q (g i) H
section
variable {X:Cx} {a b c:Expr} {ta tb tc:TE} {pos:Pos}
theorem binT(ha:PE X a ta)(hb:PE X b tb){pins:List (Addr×Obj)}{s:Shared}{σ:St}{H:Hp}{R:V→V→Hp→Prop}(I:Inv X pins σ H s)
  (h:ta σ H fun x H1=>tb σ H1 fun y H2=>R x y H2) {Q:Value→Shared→Prop} {f:Value→Value→Sem Value}
  (hf:∀ v u s2 x y H2,Inv X pins σ H2 s2→RelV x v→RelV y u→R x y H2→wpAny (model X.prog X.w) X.A (f v u) Q X.xe s2):
  wpAny (model X.prog X.w) X.A (eval a X.env) (fun v s₁=>wpAny (model X.prog X.w) X.A (eval b X.env) (fun u s₂=>wpAny (model X.prog X.w) X.A (f v u) Q X.xe s₂) X.xe s₁) X.xe s:=by
 refine thn (ha pins s σ H _ I h) fun v s1 ⟨x,H1,I1,r1,q1⟩=>?_
 refine thn (hb pins s1 σ H1 _ I1 q1) fun u s2 ⟨y,H2,I2,r2,q2⟩=>?_
 exact hf v u s2 x y H2 I2 r1 r2 q2
theorem pe_op{op:Operator}{r:R2}(ho:OpR X (binaryOp op) r)(ha:PE X a ta)(hb:PE X b tb):PE X (.BinOp a op b pos) (tOp r ta tb):=by
 intro pins s σ H Q I h
 exact wpAny_BinOp (binT ha hb I h fun v u s2 x y H2 I2 rx ry q=>ho pins s2 σ H2 x y v u Q I2 rx ry q)
theorem pe_un{op:UnaryOp}{r:V→Hp→VK→Prop}(ho:UnR X (unaryOp op) r)(ha:PE X a ta):PE X (.UnaryOp op a pos) (tUn r ta):=by
 intro pins s σ H Q I h
 exact UnaryOp_ (thn (ha pins s σ H _ I h) fun v s1 ⟨x,H1,I1,r1,q1⟩=>ho pins s1 σ H1 x v Q I1 r1 q1)
theorem opI{f:Value→Value→Sem Value}{C:Int→Int→Prop}{g:Int→Int→Int}
  (rule:∀ (i j:Int) (t u:Tok) (s:Shared) (Q:Value→Shared→Prop) (E:Value→Shared→Prop),C i j→Q (.int (g i j) s.toks) { s with toks:=s.toks+1 }→wpAny (model X.prog X.w) X.A (f (.int i t) (.int j u)) Q E s):
  OpR X f (rI C fun i j=>.int (g i j)):=by
 intro pins s σ H x y v u Q I rx ry h
 obtain ⟨i,j,rfl,rfl,hc,q⟩:=h
 obtain ⟨t,rfl⟩:=rx
 obtain ⟨t',rfl⟩:=ry
 exact rule i j t t' s _ _ hc ⟨.int (g i j),H,I.tok _,⟨_,rfl⟩,q⟩
theorem opI0{f:Value→Value→Sem Value}{g:Int→Int→Int}
  (rule:∀ (i j:Int) (t u:Tok) (s:Shared) (Q:Value→Shared→Prop) (E:Value→Shared→Prop),Q (.int (g i j) s.toks) { s with toks:=s.toks+1 }→wpAny (model X.prog X.w) X.A (f (.int i t) (.int j u)) Q E s):
  OpR X f (rI0 fun i j=>.int (g i j)):=by
 intro pins s σ H x y v u Q I rx ry h
 obtain ⟨i,j,rfl,rfl,q⟩:=h
 obtain ⟨t,rfl⟩:=rx
 obtain ⟨t',rfl⟩:=ry
 exact rule i j t t' s _ _ ⟨.int (g i j),H,I.tok _,⟨_,rfl⟩,q⟩
theorem opB0{f:Value→Value→Sem Value}{g:Int→Int→Bool}
  (rule:∀ (i j:Int) (t u:Tok) (s:Shared) (Q:Value→Shared→Prop) (E:Value→Shared→Prop),Q (.bool (g i j)) s→wpAny (model X.prog X.w) X.A (f (.int i t) (.int j u)) Q E s):
  OpR X f (rI0 fun i j=>.bl (g i j)):=by
 intro pins s σ H x y v u Q I rx ry h
 obtain ⟨i,j,rfl,rfl,q⟩:=h
 obtain ⟨t,rfl⟩:=rx
 obtain ⟨t',rfl⟩:=ry
 exact rule i j t t' s _ _ ⟨.bl (g i j),H,I,rfl,q⟩
def CDiv(i j:Int):Prop:=0<j∧j<1073741824
def CPow(i j:Int):Prop:=0≤j∧j≤1000000∧i.natAbs<2 ^ 64
def CMul(i j:Int):Prop:=(-(2 ^ 64)<i∧i<2 ^ 64)∨(-(2 ^ 64)<j∧j<2 ^ 64)
theorem CMul.ok{i j:Int}(h:CMul i j):IntMulOk i j:=by
 rcases h with ⟨h1,h2⟩ | ⟨h1,h2⟩
 ·exact .of_left (intBits_le_64 h1 h2)
 ·exact .of_right (intBits_le_64 h1 h2)
theorem op_add:OpR X (binaryOp .Add) (rI0 fun i j=>.int (i+j)):=opI0 fun _ _ _ _ _ _ _ q=>add_int q
theorem op_sub:OpR X (binaryOp .Sub) (rI0 fun i j=>.int (i - j)):=opI0 fun _ _ _ _ _ _ _ q=>sub_int q
theorem op_mul:OpR X (binaryOp .Mult) (rI CMul fun i j=>.int (i * j)):=opI fun _ _ _ _ _ _ _ hc q=>mul_int q hc.ok
theorem op_fdiv:OpR X (binaryOp .FloorDiv) (rI CDiv fun i j=>.int (i / j)):=opI fun i j _ _ _ _ _ hc q=>by
 have h1:(0:Int)<j:=hc.1
 have h2:j<1073741824:=hc.2
 exact floordiv_int (by omega) (by rw [Int.fdiv_eq_ediv_of_nonneg i (by omega)];exact q) (.inl (PyProof.noPylong_small (by omega)))
theorem op_mod:OpR X (binaryOp .Mod) (rI (fun _ j=>0<j) fun i j=>.int (i % j)):=opI fun i j _ _ _ _ _ hc q=>by
 have h1:(0:Int)<j:=hc
 exact mod_int' (by omega) (by rw [Int.fmod_eq_emod_of_nonneg i (by omega)];exact q)
theorem op_pow:OpR X (binaryOp .Pow) (rI CPow fun i j=>.int (i ^ j.toNat)):=opI fun _ _ _ _ _ _ _ hc q=>pow_int_small hc.1 hc.2.1 hc.2.2 q
theorem unI{f:Value→Sem Value}{g:Int→Int}
  (rule:∀ (i:Int) (t:Tok) (s:Shared) (Q:Value→Shared→Prop) (E:Value→Shared→Prop),Q (.int (g i) s.toks) { s with toks:=s.toks+1 }→wpAny (model X.prog X.w) X.A (f (.int i t)) Q E s):
  UnR X f (rU fun i=>.int (g i)):=by
 intro pins s σ H x v Q I rx h
 obtain ⟨i,rfl,q⟩:=h
 obtain ⟨t,rfl⟩:=rx
 exact rule i t s _ _ ⟨.int (g i),H,I.tok _,⟨_,rfl⟩,q⟩
theorem un_neg:UnR X (unaryOp .USub) (rU fun i=>.int (-i)):=unI fun _ _ _ _ _ q=>neg_int q
theorem op_add_ib:OpR X (binaryOp .Add) (fun x y H Q=>∃ i k,x= .int i∧y= .bl k∧Q (.int (i+b2i k)) H):=by
 intro pins s σ H x y v u Q I rx ry h
 obtain ⟨i,k,rfl,rfl,q⟩:=h
 obtain ⟨t,rfl⟩:=rx
 cases ry
 exact add_int_bool ⟨.int (i+b2i k),H,I.tok _,⟨_,rfl⟩,q⟩
end
section
variable {X:Cx} {a b c:Expr} {ta tb tc:TE} {pos:Pos}
theorem op_lt:OpR X (compareOp .Lt) (rI0 fun i j=>.bl (decide (i<j))):=opB0 fun _ _ _ _ _ _ _ q=>lt_int q
theorem op_le:OpR X (compareOp .LtE) (rI0 fun i j=>.bl (decide (i≤j))):=opB0 fun _ _ _ _ _ _ _ q=>le_int q
theorem op_gt:OpR X (compareOp .Gt) (rI0 fun i j=>.bl (decide (j<i))):=opB0 fun _ _ _ _ _ _ _ q=>gt_int q
theorem OpR.or{f:Value→Value→Sem Value}{r r':R2}(h:OpR X f r)(h':OpR X f r'):OpR X f (fun x y H Q=>r x y H Q∨r' x y H Q):=by
 intro pins s σ H x y v u Q I rx ry q
 rcases q with q | q
 ·exact h pins s σ H x y v u Q I rx ry q
 ·exact h' pins s σ H x y v u Q I rx ry q
theorem nomark(b:Expr){op:CmpOp}(h:op≠.In:=by decide)(h2:op≠.NotIn:=by decide):behindInMarks op b=false:=by
 have e1:(op==CmpOp.In)=false:=by cases op<;>first | rfl | exact absurd rfl h
 have e2:(op==CmpOp.NotIn)=false:=by cases op<;>first | rfl | exact absurd rfl h2
 cases b<;>simp [behindInMarks,e1,e2]
theorem pe_cmpR{op:CmpOp}{r:R2}(ho:OpR X (compareOp op) r)(ha:PE X a ta)(hb:PE X b tb)(hm:behindInMarks op b=false):PE X (.Compare a [op] [b] pos) (tOp r ta tb):=by
 intro pins s σ H Q I h
 exact wpAny_Compare1 (binT ha hb I h fun v u s2 x y H2 I2 rx ry q=>ho pins s2 σ H2 x y v u Q I2 rx ry q) hm
def tTest(t:TE):TT:=fun σ H Q=>t σ H fun x H'=>∃ k,x= .bl k∧Q k H'
theorem pt_cmpR{op:CmpOp}{r:R2}(ho:OpR X (compareOp op) r)(ha:PE X a ta)(hb:PE X b tb)(hm:behindInMarks op b=false):PT X (.Compare a [op] [b] pos) (tTest (tOp r ta tb)):=by
 intro pins s σ H Q I h
 refine wpAny_isTrue_Compare1 (thn (ha pins s σ H _ I h) fun v s1 ⟨x,H1,I1,r1,q1⟩=>thn (hb pins s1 σ H1 _ I1 q1) fun u s2 ⟨y,H2,I2,r2,q2⟩=>
  thn (ho pins s2 σ H2 x y v u _ I2 r1 r2 q2) fun c s3 ⟨z,H3,I3,r3,k,e,q3⟩=>?_) hm
 subst e
 cases r3
 exact wpAny_truthy_bool ⟨H3,I3,q3⟩
def tChain(r r':R2)(ta tb tc:TE):TE:=fun σ H Q=>ta σ H fun x H1=>tb σ H1 fun y H2=>r x y H2 fun z H3=>∃ k,z= .bl k∧
 (if k=true then tc σ H3 fun w' H4=>r' y w' H4 Q else Q (.bl false) H3)
theorem pt_chain{op op':CmpOp}{r r':R2}(ho:OpR X (compareOp op) r)(ho':OpR X (compareOp op') r')(ha:PE X a ta)(hb:PE X b tb)(hc:PE X c tc)
  (hm:lastMarks [op,op'] [b,c]=false:=by with_unfolding_all rfl):PT X (.Compare a [op,op'] [b,c] pos) (tTest (tChain r r' ta tb tc)):=by
 intro pins s σ H Q I h
 refine isTrue_chain (thn (ha pins s σ H _ I h) fun v s1 ⟨x,H1,I1,r1,q1⟩=>test_link (thn (hb pins s1 σ H1 _ I1 q1) fun u s2 ⟨y,H2,I2,r2,q2⟩=>
  thn (ho pins s2 σ H2 x y v u _ I2 r1 r2 q2) fun d s3 ⟨z,H3,I3,r3,k,e,q3⟩=>?_)) hm
 subst e
 cases r3
 refine wpAny_truthy_bool ?_
 cases k with
 | false=>
  obtain ⟨k',e',q'⟩:=q3
  cases e'
  exact ite_ff ⟨H3,I3,q'⟩
 | true=>
  refine ite_tt (test_last (thn (hc pins s3 σ H3 _ I3 q3) fun w' s4 ⟨z',H4,I4,r4,q4⟩=>thn (ho' pins s4 σ H4 y z' u w' _ I4 r2 r4 q4) fun d' s5 ⟨z2,H5,I5,r5,k2,e2,q5⟩=>?_))
  subst e2
  cases r5
  exact wpAny_truthy_bool ⟨H5,I5,q5⟩
def TruV(K:PySem.W.Frag)(x:V)(H:Hp)(k:Bool):Prop:=
 match x with
 | .non=>k=false
 | .bl b=>k=b
 | .int i=>k=(i !=0)
 | .str y=>y.length≤sizeLine∧k=((y.length:Int) !=0)
 | .byt y=>y.size≤sizeLine∧k=((y.size:Int) !=0)
 | .ref p=>(∃ xs,SqL K H p xs∧k=!xs.isEmpty)∨(∃ xs,SqT K H p xs∧k=!xs.isEmpty)∨∃ kvs,H p=some (.dK kvs)∧k=!kvs.isEmpty
 | _=>False
theorem isEmpty_kv{κ:Type}{kvs:List (κ×V)}{vs:List (κ×Value)}(r:KV kvs vs):(!vs.isEmpty)=!kvs.isEmpty:=by
 cases r<;>rfl
theorem isEmpty_of{xs:List V}{its:List Value}(r:Vals xs its):(!its.toArray.isEmpty)=!xs.isEmpty:=by
 cases r<;>simp
theorem line63:(sizeLine:Nat)<2 ^ 63:=by rw [sizeLine_eq];decide
theorem tru_ok:TruR X (fun x H Q=>∃ k,TruV X.K x H k∧Q k H):=by
 intro pins s σ H x v Q I rx h
 obtain ⟨k,e,q⟩:=h
 have hl:=line63
 have hs:sizeLine=16777216:=sizeLine_eq
 cases x with
 | non=>
  cases rx
  have e':k=false:=e
  subst e'
  exact truthy_none ⟨H,I,q⟩
 | bl b=>
  cases rx
  have e':k=b:=e
  subst e'
  exact wpAny_truthy_bool ⟨H,I,q⟩
 | int i=>
  obtain ⟨t,rfl⟩:=rx
  have e':k=(i !=0):=e
  subst e'
  exact PySem.P.truthy_int ⟨H,I,q⟩
 | str y=>
  obtain ⟨t,rfl⟩:=rx
  obtain ⟨hy,e'⟩:y.length≤sizeLine∧k=((y.length:Int) !=0):=e
  subst e'
  exact PySem.P.truthy_str (by omega) ⟨H,I.tok _,q⟩
 | byt y=>
  obtain ⟨t,rfl⟩:=rx
  obtain ⟨hy,e'⟩:y.size≤sizeLine∧k=((y.size:Int) !=0):=e
  subst e'
  exact PySem.W.truthy_bytes (by omega) ⟨H,I.tok _,q⟩
 | ref p=>
  cases rx
  have e':(∃ xs,SqL X.K H p xs∧k=!xs.isEmpty)∨(∃ xs,SqT X.K H p xs∧k=!xs.isEmpty)∨∃ kvs,H p=some (.dK kvs)∧k=!kvs.isEmpty:=e
  rcases e' with ⟨xs,hx,e'⟩ | ⟨xs,hx,e'⟩ | ⟨kvs,hx,e'⟩
  ·subst e'
   obtain ⟨its,r,pl,hz⟩:=I.list hx
   have hlen:=r.length
   exact wpAny_truthy_list pl.isList (by simp only [List.size_toArray];omega) ⟨H,I.tok _,by rw [isEmpty_of r];exact q⟩
  ·subst e'
   obtain ⟨its,r,pl,hz⟩:=I.tuple hx
   have hlen:=r.length
   exact truthy_tuple pl (by simp only [List.size_toArray];omega) ⟨H,I.tok _,by rw [isEmpty_of r];exact q⟩
  ·subst e'
   obtain ⟨hz,hS,vs,r,m⟩:kvs.length≤sizeLine∧(p==sysModules)=false∧∃ vs,KV kvs vs∧s.heap.DictOf (mixKind X.prog X.w) p vs:=I.hok p _ hx
   have hlen:kvs.length=vs.length:=Paired.length r
   exact wpAny_truthy_dict hS m (by omega) ⟨H,I.tok _,by rw [isEmpty_kv r];exact q⟩
 | _=>exact (show False from e).elim
theorem pt_truth(ha:PE X a ta)(he:∀ whole,isTrue a X.env whole=(do let v ← whole;standAt a.pos;holding [v] (truthy v))):
  PT X a (fun σ H Q=>ta σ H fun x H'=>∃ k,TruV X.K x H' k∧Q k H'):=by
 intro pins s σ H Q I h
 exact isTrue_plain (thn (ha pins s σ H _ I h) fun v s1 ⟨x,H1,I1,r1,q1⟩=>tru_ok pins s1 σ H1 x v Q I1 r1 q1) (he _)
theorem op_add_str:OpR X (binaryOp .Add) (fun x y H Q=>∃ i j,x= .str i∧y= .str j∧i.length+j.length≤sizeLine∧Q (.str (i++j)) H):=by
 intro pins s σ H x y v u Q I rx ry h
 obtain ⟨i,j,rfl,rfl,hz,q⟩:=h
 obtain ⟨t,rfl⟩:=rx
 obtain ⟨t',rfl⟩:=ry
 exact add_str (fun t' tk=>⟨.str (i++j),H,I.tok _,⟨_,rfl⟩,q⟩) hz
theorem vals1{x:V}{us:List Value}(r:Vals [x] us):∃ u,us= [u]∧RelV x u:=by
 cases r with
 | cons r1 r2=>cases r2;exact ⟨_,rfl,r1⟩
theorem vals2{x y:V}{us:List Value}(r:Vals [x,y] us):∃ u w',us= [u,w']∧RelV x u∧RelV y w':=by
 cases r with
 | cons r1 r2=>
  cases r2 with
  | cons r3 r4=>cases r4;exact ⟨_,_,rfl,r1,r3⟩
theorem call_abs:CallR X (.builtin "abs") (fun xs H Q=>∃ i,xs= [.int i]∧Q (.int (if i<0 then -i else i)) H):=by
 intro pins s σ H xs us Q I r h
 obtain ⟨i,rfl,q⟩:=h
 obtain ⟨u,rfl,t,rfl⟩:=vals1 r
 exact call_abs_int fun u tk=>⟨.int (if i<0 then -i else i),H,I.tok _,⟨_,rfl⟩,q⟩
theorem call_int1:CallR X (.type "int") (fun xs H Q=>(∃ i,xs= [.int i]∧Q (.int i) H)∨∃ k,xs= [.bl k]∧Q (.int (if k then 1 else 0)) H):=by
 intro pins s σ H xs us Q I r h
 rcases h with ⟨i,rfl,q⟩ | ⟨k,rfl,q⟩
 ·obtain ⟨u,rfl,t,rfl⟩:=vals1 r
  exact call_int_int ⟨.int i,H,I,⟨_,rfl⟩,q⟩
 ·obtain ⟨u,rfl,r1⟩:=vals1 r
  cases r1
  exact call_int_bool ⟨.int (if k then 1 else 0),H,I.tok _,⟨_,rfl⟩,q⟩
end
end L2
namespace L2
open PySem PySem.Spec PyProof.Rows
structure ObjM(h:Heap)(x dx C:Addr)(mA:Str→Option Value):Prop where
 obj:h.get? x=some (PySem.W.instObj C dx)
 ns:h.Ns1 dx mA
 ne:dx≠x
theorem lookIn_ns{h:Heap}{dx:Addr}{mA:Str→Option Value}(n:h.Ns1 dx mA):∃ od,h.get? dx=some od∧∀ name,PySem.W.lookIn name od=some (mA name):=by
 obtain ⟨o,es,ep,ho,hd,hk,_,hm⟩:=n
 refine ⟨o,ho,fun name=>?_⟩
 have e:=hm name
 unfold nsFind findBy at e
 rw [← Array.find?_toList] at e
 unfold PySem.W.lookIn
 rw [hd]
 dsimp only
 split
 ·rename_i y q
  rw [q] at e
  exact congrArg some e
 ·rename_i q
  rw [q] at e
  have a:es.toList.any (·.refKey)=false:=by
   rw [List.any_eq_false]
   intro y hy
   obtain ⟨z,t,hkey⟩:=hk y (Array.mem_toList_iff.mp hy)
   simp [DictEntry.refKey,hkey]
  have a':¬ es.toList.any (·.refKey)=true:=by rw [a];exact Bool.false_ne_true
  rw [if_neg a']
  exact congrArg some e
theorem ObjM.look{h:Heap}{x dx C:Addr}{mA:Str→Option Value}(I:ObjM h x dx C mA):∃ od,PySem.W.InstAt h x (PySem.W.instObj C dx) C (some od)∧∀ name,PySem.W.lookIn name od=some (mA name):=
 let ⟨od,ho,hl⟩:=lookIn_ns I.ns
 ⟨od,⟨I.obj,rfl,rfl,ho⟩,hl⟩
section
variable {prog:Program} {w:World} {A:Around} {E:Value→Shared→Prop} {s:Shared} {K:PySem.W.Frag} {x dx C f:Addr} {mA:Str→Option Value} {name:Str} {v:Value}
end
theorem RelO.some_of{v:V}{o:Option Value}(r:RelO (some v) o):∃ u,o=some u∧RelV v u:=by
 cases o with
 | none=>exact (show False from r).elim
 | some u=>exact ⟨u,rfl,r⟩
section
variable {P:Program} {w:World} {H H':Hp} {h h':Heap} {a C dx:Addr} {fs fs':List (Str×V)}
theorem ins_get(hok:HOk P w H h)(e:H a=some (.ins C dx fs)):∃ mA,ObjM h a dx C mA∧(∀ f,RelO (fs.lookup f) (mA f))∧PySem.Within mA (fs.map (·.1))∧fs.length≤1000∧H dx=some (.own a):=by
 obtain ⟨d,z,ne,ob,mA,n,r,q⟩:=(show ObjOk P w H h a (.ins C dx fs) from hok a _ e)
 exact ⟨mA,⟨ob,n,ne⟩,r,q,z,d⟩
end
structure Cls(K:PySem.W.Frag)(C:Addr):Prop where
 pg:PySem.W.plainGet K C Str.empty=true
 hd:PySem.W.hasDictIn K C=true
 po:PySem.W.plainOver K C=true
 sa:PySem.W.findIn K (.ref C) "__setattr__"=some (some (.builtin "object.__setattr__"))
theorem Cls.get{K:PySem.W.Frag}{C:Addr}(c:Cls K C)(f:Str):PySem.W.plainGet K C f=true:=c.pg
section
variable {X:Cx} {pins:List (Addr×Obj)} {σ:St} {H:Hp} {s:Shared} {a C dx:Addr} {fs:List (Str×V)} {f:Str} {v:V} {A:Around} {E:Value→Shared→Prop}
theorem Inv.made(I:Inv X pins σ H s):Inv X pins σ (upd (upd H s.heap.objs.size (.own (s.heap.objs.size+1))) (s.heap.objs.size+1) (.ins C s.heap.objs.size []))
  { s with heap:=(s.heap.push PySem.W.emptyDict).push (PySem.W.instObj C s.heap.objs.size) }:=by
 have e1:(s.heap.push PySem.W.emptyDict).get? s.heap.objs.size=some PySem.W.emptyDict:=Heap.get?_push_size s.heap rfl
 have e2:((s.heap.push PySem.W.emptyDict).push (PySem.W.instObj C s.heap.objs.size)).get? (s.heap.objs.size+1)=some (PySem.W.instObj C s.heap.objs.size):=by
  have:=Heap.get?_push_size (s.heap.push PySem.W.emptyDict) (o:=PySem.W.instObj C s.heap.objs.size) rfl
  rwa [Heap.size_push] at this
 have e3:(s.heap.push PySem.W.emptyDict).Ns s.heap.objs.size (fun _=>none):=⟨PySem.W.emptyDict, #[],_,e1,rfl,(fun e he=>absurd he (by simp)),fun _=>rfl⟩
 have I1:=I.laid (a:=s.heap.objs.size) (o:=.own (s.heap.objs.size+1)) (h':=s.heap.push PySem.W.emptyDict) (t':=s.toks) (fun b u q=>Heap.get?_push_of_some _ q) (Nat.le_refl _) ⟨_,e1⟩
 refine I1.laid (a:=s.heap.objs.size+1) (o:=.ins C s.heap.objs.size []) (t':=s.toks) (fun b u q=>Heap.get?_push_of_some _ q) (Nat.le_of_eq (Heap.size_push _ _)) ?_
 have ne:s.heap.objs.size≠s.heap.objs.size+1:=Nat.ne_of_lt (Nat.lt_succ_self _)
 refine ⟨by rw [upd_ne ne,upd_same],Nat.zero_le _,ne,e2,fun _=>none,(Heap.Ns1.of_empty e3).at fun o q=>Heap.get?_push_of_some _ q,fun _=>True.intro,fun y hy=>absurd rfl hy⟩
end
section
variable {X:Cx} {o e value:Expr} {f:Str} {pos pos' tpos:Pos} {ta tv:TE}
end
section
variable {X:Cx} {pins:List (Addr×Obj)} {σ:St} {H:Hp} {s:Shared} {A:Around} {E:Value→Shared→Prop} {Q:Value→Shared→Prop} {c:Value} {b:Bool}
end
end L2
namespace L2
open PySem PySem.Spec PyProof.Rows
structure Room(k:Nat)(A:Around):Prop where
 hd:A.handled=none
 dp:A.depth+3 * k+5<recursionLimit
 un:A.units+16 * k+200<cLine
 gd:A.guards=some []
theorem Room.mono{j k:Nat}{A:Around}(r:Room k A)(h:j≤k):Room j A:=⟨r.hd,by have:=r.dp;omega,by have:=r.un;omega,r.gd⟩
theorem Room.deeper{k:Nat}{A:Around}(r:Room (k+1) A)(env:Env):Room k (A.deeper env):=
 ⟨r.hd,by have:=r.dp;show A.depth+1+3 * k+5<_;omega,by have:=r.un;show A.units+3+16 * k+200<_;omega,r.gd⟩
theorem Room.in1{k:Nat}{A:Around}(r:Room (k+1) A):Room k A.in1:=
 ⟨r.hd,by have:=r.dp;show A.depth+3 * k+5<_;omega,by have:=r.un;show A.units+1+16 * k+200<_;omega,r.gd⟩
theorem Room.depth{k:Nat}{A:Around}(r:Room k A):A.depth<recursionLimit:=by have:=r.dp;omega
theorem Room.units{k:Nat}{A:Around}(r:Room k A):A.units+64<cLine:=by have:=r.un;omega
def tNil:TA:=fun _ H Q=>Q [] H
def tCons(ta:TE)(tr:TA):TA:=fun σ H Q=>ta σ H fun x H1=>tr σ H1 fun xs H2=>Q (x::xs) H2
section
variable {X:Cx} {e:Expr} {es:List Expr} {te:TE} {t:TA} {pos:Pos}
theorem pa_nil:PA X [] tNil:=fun _ _ _ _ H Q I h=>Calls.spliced_nil ⟨[],H,I,.nil,h⟩
theorem pa_cons(ha:PE X e te)(hr:PA X es t)(hs:starEach (e::es) X.env=(false,eval e X.env)::starEach es X.env:=by rfl):PA X (e::es) (tCons te t):=by
 intro pos pins s σ H Q I h
 rw [hs]
 show wpAny _ _ (spliced ((false,eval e X.env)::backTo pos (starEach es X.env))) _ _ s
 refine Calls.spliced_cons (thn (ha pins s σ H _ I h) fun u s1 ⟨x,H1,I1,r1,q1⟩=>?_)
 exact thn (hr pos pins s1 σ H1 _ I1 q1) fun us s2 ⟨xs,H2,I2,r2,q2⟩=>⟨x::xs,H2,I2,.cons r1 r2,q2⟩
def tTup(t:TA):TE:=fun σ H Q=>t σ H fun xs H1=>xs.length≤sizeLine∧∀ p,H1 p=none→Q (.ref p) (upd H1 p (.tup xs))
def tLst(t:TA):TE:=fun σ H Q=>t σ H fun xs H1=>xs.length≤sizeLine∧∀ p,H1 p=none→Q (.ref p) (upd H1 p (.lst xs))
theorem pe_tup{x1}(h:PA X es t):PE X (.Tuple es x1 pos) (tTup t):=by
 intro pins s σ H Q I hq
 refine wpAny_Tuple_spliced (thn (h pos pins s σ H _ I hq) fun us s1 ⟨xs,H1,I1,r,z,q⟩=>⟨by rw [← r.length];exact z,?_⟩)
 have hf:H1 s1.heap.objs.size=none:=I1.hok.fresh (Nat.le_refl _)
 refine ⟨.ref s1.heap.objs.size,upd H1 s1.heap.objs.size (.tup xs),I1.laid (t':=s1.toks) (fun b u e=>Heap.get?_push_of_some _ e) (Nat.le_refl _) ?_,rfl,q _ hf⟩
 exact ⟨z,us,r,⟨_,Heap.get?_push_size _ rfl,rfl,_,rfl⟩⟩
theorem pe_lst(h:PA X es t):PE X (.List es pos) (tLst t):=by
 intro pins s σ H Q I hq
 refine wpAny_List_spliced (thn (h pos pins s σ H _ I hq) fun us s1 ⟨xs,H1,I1,r,z,q⟩=>⟨by rw [← r.length];exact z,?_⟩)
 have hf:H1 s1.heap.objs.size=none:=I1.hok.fresh (Nat.le_refl _)
 refine ⟨.ref s1.heap.objs.size,upd H1 s1.heap.objs.size (.lst xs),I1.laid (t':=s1.toks) (fun b u e=>Heap.get?_push_of_some _ e) (Nat.le_refl _) ?_,rfl,q _ hf⟩
 exact ⟨z,us,0,r,Heap.get?_push_size _ rfl⟩
end
abbrev Sp:=List V→Hp→VK→XK→Prop
abbrev CXT:=List Env→Hp→Shared→XK→Value→Shared→Prop
structure Env0(P:Program)(w:World)(K:PySem.W.Frag)(mg:Str→Option Value)(base:Heap)(A:Around)(outer:List Env)(s:Shared)(H:Hp):Prop where
 frames:A.frames=some outer
 mod:Mod K mg base
 bs:∀ b o,base.get? b=some o→s.heap.get? b=some o∧H b=none
 bsz:base.objs.size≤s.heap.objs.size
 funs:s.heap.FunFrames base outer
 frf:∀ b∈frs outer,H b=none
 hok:HOk P w H s.heap
 bare:AllBare s.gens
def CE(outer:List Env)(P:Program)(w:World)(H:Hp)(s:Shared)(Q:VK)(u:Value)(s':Shared):Prop:=
 ∃ v H',s'.os=s.os∧AllBare s'.gens∧Un (frs outer) [] H H' s.heap s'.heap∧HOk P w H' s'.heap∧RelV v u∧Q v H'
def CR(CX:CXT)(outer:List Env)(P:Program)(w:World)(H:Hp)(s:Shared)(Q:VK)(E:XK)(r:Result)(s':Shared):Prop:=
 match r with
 | .ok (.ret u)=>CE outer P w H s Q u s'
 | .ok _=>False
 | .error e=>CX outer H s E e s'
structure FnOk(P:Program)(w:World)(K:PySem.W.Frag)(mg:Str→Option Value)(base:Heap)(CX:CXT)(k:Nat)(f:Addr)(fd:FuncData)(ps:List Str)(sp:Sp):Prop where
 len:∀ vs H Q E,sp vs H Q E→vs.length=ps.length
 run:∀ (A:Around) (outer:List Env) (s:Shared) (H:Hp) (args:Args) (us:List Value) (vs:List V) (Q:VK) (E:XK),Room k A→Env0 P w K mg base A outer s H→BindsTo s fd args (ps.zip us)→Vals vs us→sp vs H Q E→
  codeAny (model P w) A (.call (.ref f) args) (CR CX outer P w H s Q E) s
theorem FnOk.mono{P:Program}{w:World}{K:PySem.W.Frag}{mg:Str→Option Value}{base:Heap}{CX:CXT}{j k:Nat}{f:Addr}{fd:FuncData}{ps:List Str}{sp:Sp}(F:FnOk P w K mg base CX j f fd ps sp)(h:j≤k):
  FnOk P w K mg base CX k f fd ps sp:=⟨F.len,fun A outer s H args us vs Q E hr=>F.run A outer s H args us vs Q E (hr.mono h)⟩
theorem FnOk.imp{P:Program}{w:World}{K:PySem.W.Frag}{mg:Str→Option Value}{base:Heap}{CX:CXT}{k:Nat}{f:Addr}{fd:FuncData}{ps:List Str}{sp sp':Sp}(F:FnOk P w K mg base CX k f fd ps sp)
  (h:∀ vs H Q E,sp' vs H Q E→sp vs H Q E):FnOk P w K mg base CX k f fd ps sp':=
 ⟨fun vs H Q E q=>F.len vs H Q E (h _ _ _ _ q),fun A outer s H args us vs Q E hr he hb hv hs=>F.run A outer s H args us vs Q E hr he hb hv (h _ _ _ _ hs)⟩
theorem Env0.in1{P:Program}{w:World}{K:PySem.W.Frag}{mg:Str→Option Value}{base:Heap}{A:Around}{outer:List Env}{s:Shared}{H:Hp}(e:Env0 P w K mg base A outer s H):
  Env0 P w K mg base A.in1 outer s H:=⟨e.frames,e.mod,e.bs,e.bsz,e.funs,e.frf,e.hok,e.bare⟩
section
variable {X:Cx} {pins:List (Addr×Obj)} {σ:St} {H:Hp} {s s':Shared}
theorem Inv.env0(I:Inv X pins σ H s):Env0 X.prog X.w X.K X.mg X.base X.A X.stack s H:=
 ⟨I.ok.frames,I.ok.mod,I.bs,Nat.le_trans I.ok.bsz I.sz,I.stack,I.stkFree,I.hok,I.bare⟩
theorem Inv.after{Q:VK}{u:Value}(I:Inv X pins σ H s)(h:CE X.stack X.prog X.w H s Q u s'):EP X pins σ Q u s':=by
 obtain ⟨v,H',os,bare,un,hok,r,q⟩:=h
 obtain ⟨hh,g,d,t,os'⟩:=s'
 obtain rfl:os'=s.os:=os
 exact ⟨v,H',I.call (h':=hh) (g':=g) (d':=d) (t':=t) (ch:= []) un hok bare (fun b z=>absurd z (by simp)),r,q⟩
end
def tCall(sp:Sp)(dvs:List V)(E:XK)(t:TA):TE:=fun σ H Q=>t σ H fun vs H1=>sp (vs++dvs) H1 Q E
def Binds(K:PySem.W.Frag)(fd:FuncData)(ps:List Str)(ds:List Value):Prop:=
 ∀ (s:Shared) (us:List Value),K.In s.heap→(us++ds).length=ps.length→BindsTo s fd ⟨us,[]⟩ (ps.zip (us++ds))
theorem Binds.all{K:PySem.W.Frag}{fd:FuncData}{ps:List Str}(h:∀ us:List Value,us.length=ps.length→bindArgs fd ⟨us,[]⟩=pure (ps.zip us)):Binds K fd ps []:=fun s us _ hl=>by
 rw [List.append_nil] at hl ⊢
 exact .of_eq (h us hl)
def Passes(CX:CXT)(X:Cx)(E:XK):Prop:=∀ (pins:List (Addr×Obj)) (σ:St) (H:Hp) (s:Shared) (e:Value) (s':Shared),Inv X pins σ H s→CX X.stack H s E e s'→X.xe e s'
section
variable {X:Cx} {CX:CXT} {k:Nat} {f C:Addr} {fd:FuncData} {ps:List Str} {sp:Sp} {dvs:List V} {ds:List Value} {E:XK} {x m:Str} {p pos apos:Pos} {e o:Expr} {es:List Expr} {ta:TE} {t:TA}
theorem run_fn{pins:List (Addr×Obj)}{σ:St}{H:Hp}{s:Shared}{Q:VK}{us:List Value}{vs:List V}(F:FnOk X.prog X.w X.K X.mg X.base CX k f fd ps sp)(hr:Room k X.A)(hb:Binds X.K fd ps ds)(hd:Vals dvs ds)(hx:Passes CX X E)
  (I:Inv X pins σ H s) (r:Vals vs us) (h:sp (vs++dvs) H Q E):wpAny (model X.prog X.w) X.A (call (.ref f) us) (EP X pins σ Q) X.xe s:=by
 have r2:Vals (vs++dvs) (us++ds):=r.append hd
 have hl:(us++ds).length=ps.length:=by rw [← r2.length];exact F.len _ _ _ _ h
 refine wpAny_call (codeAny_mono (F.run X.A X.stack s H ⟨us,[]⟩ (us++ds) (vs++dvs) Q E hr I.env0 (hb s us I.kIn hl) r2 h) fun r s' hq=>?_)
 cases r with
 | error e=>exact hx pins σ H s e s' I hq
 | ok fl=>
  cases fl with
  | ret u=>exact I.after hq
  | next=>exact False.elim hq
  | brk=>exact False.elim hq
  | cont=>exact False.elim hq
theorem pe_call(F:FnOk X.prog X.w X.K X.mg X.base CX k f fd ps sp)(hr:Room k X.A)(hg:Gl X x)(hm:X.mg x=some (.ref f))(hk:PySem.W.keepIn X.K (.ref f)=true)(hb:Binds X.K fd ps ds)(hd:Vals dvs ds)(hx:Passes CX X E)
  (ha:PA X (e::es) t) (hdb:(x==("__debug__":Str))=false:=by decide) (he:starEach (e::es) X.env=(false,eval e X.env)::starEach es X.env:=by rfl) (hpl:(backTo pos (starEach es X.env)).any (·.1)=false:=by rfl):
  PE X (.Call (.Name x p) (e::es) [] pos) (tCall sp dvs E t):=by
 intro pins s σ H Q I h
 refine wpAny_Call_Name_kw (ld_glob I hg hm ?_ hdb)
 refine PySem.W.callWith_K (h₀:=X.base) I.ok.mod.kin hk (thn (ha pos pins s σ H _ I h) fun us s1 ⟨vs,H1,I1,r,q⟩=>⟨I1.kIn,?_⟩) he hpl
 exact run_fn F hr hb hd hx I1 r q
theorem pe_call0(F:FnOk X.prog X.w X.K X.mg X.base CX k f fd ps sp)(hr:Room k X.A)(hg:Gl X x)(hm:X.mg x=some (.ref f))(hk:PySem.W.keepIn X.K (.ref f)=true)(hb:Binds X.K fd ps ds)(hd:Vals dvs ds)(hx:Passes CX X E)
  (hdb:(x==("__debug__":Str))=false:=by decide):PE X (.Call (.Name x p) [] [] pos) (tCall sp dvs E tNil):=by
 intro pins s σ H Q I h
 refine wpAny_Call_Name_kw (ld_glob I hg hm ?_ hdb)
 exact PySem.W.callWith_K0 I.kIn hk (run_fn (us:= []) F hr hb hd hx I .nil h)
end
def PK(X:Cx)(kws:List Keyword)(t:TA):Prop:=
 ∀ (pos:Pos) (pins:List (Addr×Obj)) (s:Shared) (σ:St) (H:Hp) (Q:List V→Hp→Prop),Inv X pins σ H s→t σ H Q→wpAny (model X.prog X.w) X.A (evalAll ((backToKw pos (keywordEach kws X.env)).map (·.2))) (AP X pins σ Q) X.xe s
section
variable {X:Cx} {CX:CXT} {k:Nat} {f C:Addr} {fd:FuncData} {ps ks:List Str} {sp:Sp} {E:XK} {x m:Str} {p pos apos kpos:Pos} {e o:Expr} {es:List Expr} {kws:List Keyword} {te ta:TE} {t tk:TA} {nm:Option Str}
variable {g:List Value→List Value→List Value} {gV:List V→List V→List V}
end
structure FnScope(N P:List Str)(sc:Scope):Prop where
 kind:sc.kind= .function
 co:sc.isCoroutine=false
 gen:sc.isGenerator=false
 nd:N.Nodup
 pre:N.take P.length=P
 par:∀ x∈P,sc.names.lookup x=some .local∨sc.names.lookup x=some .cell
 nofree:∀ y∈sc.names,y.2≠.free
theorem bindL_out{kindOf:Str→Option NameKind}{x:Str}:∀ {binds:List (Str×Value)} {m:Str→Option Value},(∀ v,(x,v)∉binds)→bindL kindOf binds m x=m x
 | [],_,_=>rfl
 | (n,v)::r,m,h=>by
  unfold bindL
  rw [bindL_out fun w hw=>h w (List.mem_cons_of_mem _ hw)]
  split
  ·have:x≠n:=by rintro rfl;exact h v List.mem_cons_self
   simp [this]
  ·rfl
theorem bindC_out{kindOf:Str→Option NameKind}{x:Str}:∀ {binds:List (Str×Value)} {m:Str→Option Value},(∀ v,(x,v)∉binds)→bindC kindOf binds m x=m x
 | [],_,_=>rfl
 | (n,v)::r,m,h=>by
  unfold bindC
  rw [bindC_out fun w hw=>h w (List.mem_cons_of_mem _ hw)]
  split
  ·rfl
  ·have:x≠n:=by rintro rfl;exact h v List.mem_cons_self
   simp [this]
theorem bindL_get{kindOf:Str→Option NameKind}{x:Str}{v:Value}:∀ {P:List Str} {vs:List Value} {i:Nat} {m:Str→Option Value},P.Nodup→P[i]? =some x→vs[i]? =some v→kindOf x=some .local→
  bindL kindOf (P.zip vs) m x=some v
 | [],_,_,_,_,h,_,_=>by simp at h
 | _::_,[],_,_,_,_,h,_=>by simp at h
 | p::P,w::vs,0,m,nd,h1,h2,hk=>by
  simp at h1 h2;subst h1;subst h2
  show bindL kindOf ((p,w)::P.zip vs) m p=_
  unfold bindL
  rw [bindL_out fun v hv=>(List.nodup_cons.mp nd).1 (List.of_mem_zip hv).1,if_pos hk]
  simp
 | p::P,w::vs,i+1,m,nd,h1,h2,hk=>by
  show bindL kindOf ((p,w)::P.zip vs) m x=_
  unfold bindL
  exact bindL_get (i:=i) (List.nodup_cons.mp nd).2 (by simpa using h1) (by simpa using h2) hk
theorem bindC_get{kindOf:Str→Option NameKind}{x:Str}{v:Value}:∀ {P:List Str} {vs:List Value} {i:Nat} {m:Str→Option Value},P.Nodup→P[i]? =some x→vs[i]? =some v→kindOf x≠some .local→
  bindC kindOf (P.zip vs) m x=some v
 | [],_,_,_,_,h,_,_=>by simp at h
 | _::_,[],_,_,_,_,h,_=>by simp at h
 | p::P,w::vs,0,m,nd,h1,h2,hk=>by
  simp at h1 h2;subst h1;subst h2
  show bindC kindOf ((p,w)::P.zip vs) m p=_
  unfold bindC
  rw [bindC_out fun v hv=>(List.nodup_cons.mp nd).1 (List.of_mem_zip hv).1,if_neg hk]
  simp
 | p::P,w::vs,i+1,m,nd,h1,h2,hk=>by
  show bindC kindOf ((p,w)::P.zip vs) m x=_
  unfold bindC
  exact bindC_get (i:=i) (List.nodup_cons.mp nd).2 (by simpa using h1) (by simpa using h2) hk
def start(N:List Str)(vs:List V):St:=vs.map some++List.replicate (N.length - vs.length) none
def cxOf(CX:CXT)(P:Program)(w:World)(K:PySem.W.Frag)(mg:Str→Option Value)(base:Heap)(N:List Str)(qual:Str)(scope:Scope)(f:Addr)(cd:Value)(A:Around)(outer:List Env)(s:Shared)(H:Hp)(E:XK):Cx where
 prog:=P
 w:=w
 K:=K
 mg:=mg
 base:=base
 A:=A.deeper (envOfC qual scope s.heap.objs.size f cd)
 N:=N
 s₀:=s
 H₀:=H
 env:=envOfC qual scope s.heap.objs.size f cd
 outer:=outer
 stack:=envOfC qual scope s.heap.objs.size f cd::outer
 ex:= []
 calm:=true
 fn:=fun _=>true
 pn:= []
 xe:=fun e s'=>wpAny (model P w) (A.deeper (envOfC qual scope s.heap.objs.size f cd)) (leaving (envOfC qual scope s.heap.objs.size f cd) e) (fun _ s''=>CX outer H s E e s'') (fun e' s''=>CX outer H s E e' s'') s'
theorem cell_has{sc:Scope}{n:Nat}{x:Str}(h:sc.names.lookup x=some .cell):∃ c,(cellsFrom n sc.names []).lookup x=some c:=by
 have q:=PySem.W.cellsFrom_some sc.names n [] (.inl h)
 exact Option.isSome_iff_exists.mp q
theorem inv_start{CX:CXT}{P:Program}{w:World}{K:PySem.W.Frag}{mg:Str→Option Value}{base:Heap}{N ps:List Str}{qual:Str}{scope:Scope}{f:Addr}{cd:Value}{A:Around}{outer:List Env}{s s1:Shared}{H:Hp}{E:XK}{us:List Value}{vs:List V}
  (S:FnScope N ps scope) (hd:A.handled=none) (e0:Env0 P w K mg base A outer s H) (hl:vs.length=ps.length) (r:Vals vs us)
  (x:InCallC s s.heap.objs.size (bindL (envOfC qual scope s.heap.objs.size f cd).kindOf (ps.zip us) fun _=>none) (cellsFrom (s.heap.objs.size+1) scope.names []) (bindC (envOfC qual scope s.heap.objs.size f cd).kindOf (ps.zip us) fun _=>none) s1):
  Inv (cxOf CX P w K mg base N qual scope f cd A outer s H E) [] (start N vs) H s1:=by
 have hpl:ps.length≤N.length:=by have:=congrArg List.length S.pre;rw [List.length_take] at this;omega
 obtain ⟨h1,tk,rfl,hk⟩:=x.done
 have noA:∀ b:Addr,b∉(cxOf CX P w K mg base N qual scope f cd A outer s H E).ex:=fun b z=>absurd (show b∈([]:List Addr) from z) (by simp)
 refine ⟨⟨e0.mod,S.kind,rfl,rfl,Nat.le_refl _,fun y z c h1 h2=>?_,fun y hy=>?_,fun y c _ h=>?_,fun _=>hd,Around.frames_deeper e0.frames,.inr ⟨rfl,rfl⟩,fun b z=>absurd z (noA b),e0.bs,e0.bsz,fun b _ _=>noA b,fun b z=>absurd z (noA b),e0.funs,e0.frf⟩,
  rfl,e0.bare,Un.kept hk,⟨_,x.toInCall.ns,fun i y v h1 h2 h3=>?_⟩,fun y c h=>⟨_,x.cell y c h⟩,e0.hok.fresh (Nat.le_refl _),fun y c h=>?_,fun p hp=>absurd (show p∈([]:List (Addr×Obj)) from hp) (by simp),e0.hok.kept hk,?_⟩
 ·exact name_of_addr x.apart (PySem.mem_of_lookup h1) (PySem.mem_of_lookup h2)
 ·have hy:scope.names.lookup y=some .cell∨scope.names.lookup y=some .free:=hy
  rcases hy with hy | hy
  ·exact cell_has hy
  ·exact absurd rfl (S.nofree _ (PySem.mem_of_lookup hy))
 ·exact Nat.le_of_lt (x.above y c (PySem.mem_of_lookup h))
 ·have hi:i<vs.length:=by
   unfold start at h2
   by_cases hi:i<vs.length
   ·exact hi
   ·rw [List.getElem?_append_right (by simpa using hi)] at h2
    rw [List.getElem?_replicate] at h2
    split at h2<;>cases h2
  have ha:vs[i]? =some v:=by
   unfold start at h2
   rw [List.getElem?_append_left (by simpa using hi),List.getElem?_map] at h2
   cases e:vs[i]? with
   | none=>rw [e] at h2;cases h2
   | some a=>rw [e] at h2;cases h2;rfl
  obtain ⟨u,hu,rv⟩:=r.get ha
  have hp:ps[i]? =some y:=by
   rw [← S.pre,List.getElem?_take_of_lt (by omega)];exact h1
  have ndP:ps.Nodup:=by rw [← S.pre];exact S.nd.sublist (List.take_sublist _ _)
  refine ⟨u,rv,?_⟩
  rcases S.par y (List.mem_of_getElem? hp) with k | k
  ·exact .inl ⟨k,bindL_get ndP hp hu k⟩
  ·obtain ⟨c,e⟩:=cell_has (n:=s.heap.objs.size+1) k
   refine .inr ⟨.inl k,c,e,?_⟩
   have q:=x.cell y c e
   rw [bindC_get ndP hp hu (by show scope.names.lookup y≠_;rw [k];decide)] at q
   exact q
 ·exact e0.hok.fresh (Nat.le_of_lt (x.above y c (PySem.mem_of_lookup h)))
 ·unfold start
  show _=N.length
  rw [List.length_append,List.length_map,List.length_replicate]
  omega
theorem fn_of{CX:CXT}{P:Program}{w:World}{K:PySem.W.Frag}{mg:Str→Option Value}{base:Heap}{k:Nat}{f:Addr}{name qual:Str}{params:Arguments}{body:List Stmt}{scope:Scope}{dV kV doc pm cdv ct oc:Value}{an od:Option Addr}
  {osl:Array (Option Value)} {N ps:List Str} {sp:Sp} (lk:K.lookup f=some ⟨oc,od,.func (PySem.W.fnOf name qual params body scope dV kV doc pm an cdv ct),osl⟩) (hcd:PySem.W.codeIn K cdv qual=true) (S:FnScope N ps scope)
  (len:∀ vs H Q E,sp vs H Q E→vs.length=ps.length)
  (hbody:∀ (A:Around) (outer:List Env) (s:Shared) (H:Hp) (vs:List V) (Q:VK) (E:XK),Room k (A.deeper (envOfC qual scope s.heap.objs.size f cdv))→sp vs H Q E→
   ∃ t,PSs (cxOf CX P w K mg base N qual scope f cdv A outer s H E) body t∧t { nx:=fun _ H'=>Q .non H',rt:=Q } (start N vs) H):
  FnOk P w K mg base CX (k+1) f (PySem.W.fnOf name qual params body scope dV kV doc pm an cdv ct) ps sp:=by
 refine ⟨len,fun A outer s H args us vs Q E hr e0 hb r hsp=>?_⟩
 have hl:=len _ _ _ _ hsp
 have KX:K.In s.heap:=e0.mod.kin.keeps fun b o e=>(e0.bs b o e).1
 have lim:s.heap.NoLimit:=e0.mod.nolimit.keeps fun b o e=>(e0.bs b o e).1
 have hkind:∀ y∈ps.zip us,scope.names.lookup y.1=some .local∨(scope.names.lookup y.1=some .cell∧((cellsFrom (s.heap.objs.size+1) scope.names []).lookup y.1).isSome=true):=fun ⟨n,v⟩ hy=>by
  rcases S.par n (List.of_mem_zip hy).1 with q | q
  ·exact .inl q
  ·exact .inr ⟨q,PySem.W.cellsFrom_some _ _ _ (.inl q)⟩
 refine codeAny_call_function hr.depth (KX _ _ lk) rfl S.co S.gen rfl (PySem.W.codeRec_of KX hcd) (hb _ _ _ _ ?_)
 refine wpAny_newFunctionEnv_cells S.kind hkind fun env he s1 x=>?_
 subst he
 refine ⟨lim.keeps x.toInCall.keep,codeAny_func ?_⟩
 obtain ⟨t,ht,hq⟩:=hbody A outer s H vs Q E (hr.deeper _) hsp
 have I:Inv (cxOf CX P w K mg base N qual scope f cdv A outer s H E) [] (start N vs) H s1:=inv_start S hr.hd e0 hl r x
 refine wpAny_mono (ht [] s1 (start N vs) H _ I hq) (fun fl s' hs=>?_) fun e s' hs=>hs
 have fin:∀ {σ':St} {H':Hp} {v:V} {u:Value},Inv (cxOf CX P w K mg base N qual scope f cdv A outer s H E) [] σ' H' s'→RelV v u→Q v H'→CE outer P w H s Q u s':=
  fun {σ' H' v u} J rv q=>⟨v,H',J.os,J.bare,J.base,J.hok,rv,q⟩
 cases fl with
 | ret u=>
  obtain ⟨v,σ',H',J,rv,q⟩:=hs
  exact fin J rv q
 | next=>
  obtain ⟨σ',H',J,q⟩:=hs
  exact fin (v:=V.non) (u:=Value.none) J rfl q
 | brk=>
  obtain ⟨_,_,_,q⟩:=hs
  exact False.elim q
 | cont=>
  obtain ⟨_,_,_,q⟩:=hs
  exact False.elim q
end L2
namespace L2
open PySem PySem.Spec PyProof.Rows
section
variable {X:Cx} {x:Str} {p pos:Pos} {e:Expr} {es:List Expr} {t:TA} {id T:String} {r:List V→Hp→VK→Prop}
def tCB(r:List V→Hp→VK→Prop)(t:TA):TE:=fun σ H Q=>t σ H fun vs H1=>r vs H1 Q
theorem pe_callB(hc:CallR X (.builtin id) r)(hg:Gl X x)(hm:X.mg x=none)(hv:bootBuiltins x=some (.builtin id))(ha:PA X (e::es) t)(hn:x≠"__name__":=by decide)(hdb:(x==("__debug__":Str))=false:=by decide)
  (he:starEach (e::es) X.env=(false,eval e X.env)::starEach es X.env:=by rfl) (hpl:(backTo pos (starEach es X.env)).any (·.1)=false:=by rfl):PE X (.Call (.Name x p) (e::es) [] pos) (tCB r t):=by
 intro pins s σ H Q I h
 refine wpAny_Call_Name_kw (ld_blt I hg hm hv ?_ hn hdb)
 exact PyProof.Rows.callWith_builtin1 (thn (ha pos pins s σ H _ I h) fun us s1 ⟨vs,H1,I1,r1,q1⟩=>hc pins s1 σ H1 vs us Q I1 r1 q1) he hpl
theorem pe_callTy(hc:CallR X (.type T) r)(hg:Gl X x)(hm:X.mg x=none)(hv:bootBuiltins x=some (.type T))(ha:PA X (e::es) t)(hn:x≠"__name__":=by decide)(hdb:(x==("__debug__":Str))=false:=by decide)
  (he:starEach (e::es) X.env=(false,eval e X.env)::starEach es X.env:=by rfl) (hpl:(backTo pos (starEach es X.env)).any (·.1)=false:=by rfl):PE X (.Call (.Name x p) (e::es) [] pos) (tCB r t):=by
 intro pins s σ H Q I h
 refine wpAny_Call_Name_kw (ld_blt I hg hm hv ?_ hn hdb)
 exact PyProof.Rows.callWith_type1 (thn (ha pos pins s σ H _ I h) fun us s1 ⟨vs,H1,I1,r1,q1⟩=>hc pins s1 σ H1 vs us Q I1 r1 q1) he hpl
end
end L2
namespace HT
open PySem PyProof.Rows
section
open PySem.SeqAt
open PySem.AutoSeq1 (wpAny_loadPart')
open PySem.MeetsSeq PySem.MeetsSeq2 PySem.MeetsSeq3
end
section
variable {prog:Program} {w:World} {A:Around} {E:Value→Shared→Prop} {s:Shared}
theorem cat_tup{t b:Addr}{vs ws:List Value}{Q:Value→Shared→Prop}(ht:IsTup s.heap t vs.toArray)(hb:IsTup s.heap b ws.toArray)(hv:vs≠ [])
  (h1:ws= []→Q (.ref t) s) (h2:ws≠ []→Q (.ref s.heap.objs.size) { s with heap:=s.heap.push { cls:=.type "tuple",data:=.seq (vs++ws).toArray } })
  (hsz:vs.length+ws.length≤sizeLine):wpAny (model prog w) A (binaryOp .Add (.ref t) (.ref b)) Q E s:=by
 obtain ⟨⟨cls,dd,data,sl⟩,ho,hc,n,hd⟩:=id ht
 obtain ⟨⟨cls2,dd2,data2,sl2⟩,ho2,hc2,n2,hd2⟩:=id hb
 simp only at hc hd hc2 hd2
 subst hc hd hc2 hd2
 have e:vs.toArray++ws.toArray=(vs++ws).toArray:=by simp
 by_cases hw:ws= []
 ·exact concat_meets ⟨_,ho,rfl⟩ ⟨_,ho2,rfl⟩ noFill_tuple_add seq_tuple_add PySem.F.slot_tuple_add PySem.F.entry_tuple_add (PySem.F.args_tuple_add_2 _ _)
   (tuple_addW1 t b vs.toArray ws.toArray n n2 dd dd2 sl sl2 (by simpa using hv) (by simp [hw])) ⟨ho,ho2,h1 hw⟩
 ·refine concat_meets ⟨_,ho,rfl⟩ ⟨_,ho2,rfl⟩ noFill_tuple_add seq_tuple_add PySem.F.slot_tuple_add PySem.F.entry_tuple_add (PySem.F.args_tuple_add_2 _ _)
   (tuple_addW2 t b vs.toArray ws.toArray n n2 dd dd2 sl sl2 (by simpa using hv) (by simpa using hw) (by rw [List.size_toArray,List.size_toArray];exact hsz)) ⟨ho,ho2,?_⟩
  rw [e]
  exact h2 hw
def sIx(n d:Nat):Option Int→Nat
 | none=>d
 | some v=>if v<0 then (v+(n:Int)).toNat else min v.toNat n
theorem sIx_none(n d:Nat):sIx n d none=d:=rfl
theorem sIx_nat(n d k:Nat):sIx n d (some (k:Int))=min k n:=by
 show (if (k:Int)<0 then ((k:Int)+(n:Int)).toNat else min (k:Int).toNat n)=min k n
 rw [if_neg (by omega),Int.toNat_natCast]
theorem sIx_le(n d:Nat)(hd:d≤n)(o:Option Int):sIx n d o≤n:=by
 cases o with
 | none=>exact hd
 | some v=>
  show (if v<0 then (v+(n:Int)).toNat else min v.toNat n)≤n
  by_cases hv:v<0
  ·rw [if_pos hv];omega
  ·rw [if_neg hv];exact Nat.min_le_right _ _
theorem clip_eq(v:Int)(n d:Nat):(if v<0 then max (v+(n:Int)) 0 else min v (n:Int))=((sIx n d (some v):Nat):Int):=by
 show (if v<0 then max (v+(n:Int)) 0 else min v (n:Int))=(((if v<0 then (v+(n:Int)).toNat else min v.toNat n):Nat):Int)
 by_cases hv:v<0
 ·simp only [if_pos hv];omega
 ·simp only [if_neg hv];omega
theorem adjust_gen(lo hi:Option Int)(n:Nat):Builtin.Slice.sliceAdjust lo hi 1 (n:Int)=(((sIx n 0 lo:Nat):Int),((sIx n n hi:Nat):Int)):=by
 have h1:¬ ((1:Int)<0):=by omega
 unfold Builtin.Slice.sliceAdjust
 simp only [h1,if_false]
 refine Prod.ext ?_ ?_
 ·cases lo with
  | none=>rfl
  | some v=>exact clip_eq v n 0
 ·cases hi with
  | none=>rfl
  | some v=>exact clip_eq v n n
theorem places_gen(i j:Nat):Builtin.Slice.slicePlaces (i:Int) (j:Int) 1=j - i:=by
 unfold Builtin.Slice.slicePlaces
 have h1:(1:Int)>0:=by omega
 simp only [h1,if_true,Int.ediv_one]
 split<;>omega
theorem slicePart_{v:Value}{o:Option Int}{Q:Option Int→Shared→Prop}(p:IsPart v o)(h:Q o s):wpAny (model prog w) A (Builtin.Slice.slicePartIndex v) Q E s:=by
 cases p with
 | none=>exact slicePart_none h
 | int i t=>exact slicePart_int h
theorem sliceApplied_gen{sl:Addr}{vl vu:Value}{lo hi:Option Int}{n:Nat}{Q:Int×Int×Nat→Shared→Prop}(hs:s.heap.IsSliceOf sl vl vu .none)(pl:IsPart vl lo)(pu:IsPart vu hi)
  (h:Q (((sIx n 0 lo:Nat):Int),1,sIx n n hi - sIx n 0 lo) s):wpAny (model prog w) A (Builtin.Slice.sliceApplied (.ref sl) (pure (n:Int))) Q E s:=by
 obtain ⟨os,hos,hcs,hds⟩:=id hs
 unfold Builtin.Slice.sliceApplied Builtin.Slice.sliceFields
 refine wpAny_bind (wpAny_bind (wpAny_field hos hds (x:=vl) rfl (wpAny_bind (wpAny_field hos hds (x:=vu) rfl (wpAny_bind (wpAny_field hos hds (x:=.none) rfl (wpAny_pure ?_)))))))
 refine wpAny_bind (slicePart_none ?_)
 show wpAny _ _ (if ((1:Int)==0)=true then _ else _) _ _ s
 rw [if_neg (by decide)]
 refine wpAny_bind (slicePart_ pl (wpAny_bind (slicePart_ pu (wpAny_bind (wpAny_pure ?_)))))
 show wpAny _ _ (match Builtin.Slice.sliceAdjust lo hi 1 (n:Int) with | (lo,hi)=>pure (lo,(1:Int),Builtin.Slice.slicePlaces lo hi 1)) _ _ s
 rw [adjust_gen lo hi n]
 show wpAny _ _ (pure (((sIx n 0 lo:Nat):Int),(1:Int),Builtin.Slice.slicePlaces ((sIx n 0 lo:Nat):Int) ((sIx n n hi:Nat):Int) 1)) _ _ s
 rw [places_gen]
 exact wpAny_pure h
theorem pick_gen(xs:Array Value)(i k:Nat):((List.range k).filterMap fun (m:Nat)=>xs[((i:Int)+(m:Int) * 1).toNat]?).toArray=((xs.toList.drop i).take k).toArray:=by
 have e:(fun (m:Nat)=>xs[((i:Int)+(m:Int) * 1).toNat]?)=fun m=>xs[i+m]? :=by
  funext m
  have:((i:Int)+(m:Int) * 1).toNat=i+m:=by omega
  rw [this]
 rw [e]
 have:=pick_run xs i k
 rw [List.filterMap_map] at this
 have e2:((fun x=>xs[x]?)∘fun x=>i+x)=fun m=>xs[i+m]? :=rfl
 rw [e2] at this
 rw [this]
theorem getItem_tuple_cut{t sl:Addr}{items:Array Value}{vl vu:Value}{lo hi:Option Int}{Q:Value→Shared→Prop}(ht:IsTup s.heap t items)(hs:s.heap.IsSliceOf sl vl vu .none)(pl:IsPart vl lo)(pu:IsPart vu hi)
  (hw:¬ (sIx items.size 0 lo=0∧sIx items.size items.size hi=items.size))
  (h:Q (.ref s.heap.objs.size) { s with heap:=s.heap.push { cls:=.type "tuple",data:=.seq ((items.toList.drop (sIx items.size 0 lo)).take (sIx items.size items.size hi - sIx items.size 0 lo)).toArray } })
  (hsz:items.size≤sizeLine):wpAny (model prog w) A (getItem (.ref t) (.ref sl)) Q E s:=by
 have htake:sizeOk (.seq ((items.toList.drop (sIx items.size 0 lo)).take (sIx items.size items.size hi - sIx items.size 0 lo)).toArray):=by
  show ((items.toList.drop (sIx items.size 0 lo)).take (sIx items.size items.size hi - sIx items.size 0 lo)).toArray.size≤sizeLine
  rw [List.size_toArray,List.length_take,List.length_drop,Array.length_toList]
  omega
 have hj:sIx items.size items.size hi≤items.size:=sIx_le _ _ (Nat.le_refl _) hi
 obtain ⟨os,hos,hcs,hds⟩:=id hs
 have hTs:s.TypeIs (.ref sl) "slice":=⟨os,hos,hcs⟩
 unfold getItem
 try with_reducible refine wpAny_holding ?_
 first | refine wpAny_bind (wpAny_pure ?_) | skip
 refine wpAny_bind (wpAny_sequenceKey ht.typeIs (by decide) ?_)
 refine wpAny_bind (wpAny_callSpecial?_slot (name:=Str.ofString "__getitem__") ht.typeIs PyProof.Rows.slot_tuple_getitem
  (wpAny_call_entry PyProof.Rows.slot_tuple_getitem ht.typeIs entry_tuple_getitem ?_ (args_tuple_getitem _ _)))
 show wpAny _ _ (Builtin.Tuple.tupleItemsOf (.ref t) >>= _) _ _ s
 refine wpAny_bind (tupleItemsOf_ ht ?_)
 refine wpAny_bind (wpAny_typeOf hTs ?_)
 rw [if_pos (by decide)]
 refine wpAny_bind (sliceApplied_gen hs pl pu ?_)
 have hno:¬ ((((sIx items.size 0 lo:Nat):Int)==0&&(1:Int)==1&&(sIx items.size items.size hi - sIx items.size 0 lo)==items.size)=true):=by
  intro q
  rw [Bool.and_eq_true,Bool.and_eq_true] at q
  have q1:((sIx items.size 0 lo:Nat):Int)=0:=eq_of_beq q.1.1
  have q2:sIx items.size items.size hi - sIx items.size 0 lo=items.size:=eq_of_beq q.2
  exact hw ⟨by omega,by omega⟩
 show wpAny _ _ (if (((sIx items.size 0 lo:Nat):Int)==0&&(1:Int)==1&&(sIx items.size items.size hi - sIx items.size 0 lo)==items.size)=true then _ else _) _ _ s
 rw [if_neg hno,pick_gen]
 first
  | exact wpAny_bind (m:=Builtin.Tuple.tupleExact _) (wpAny_newObj_type (wpAny_pure ⟨_,rfl,wpAny_pure h⟩) htake)
  | exact wpAny_bind (m:=Builtin.Tuple.tupleExact _) (wpAny_newObj_type (wpAny_bind (wpAny_pure (wpAny_pure ⟨_,rfl,wpAny_pure h⟩))) htake)
  | exact wpAny_bind (wpAny_bind (m:=Builtin.Tuple.tupleExact _) (wpAny_newObj_type (wpAny_pure (wpAny_pure ⟨_,rfl,wpAny_pure h⟩)) htake))
  | exact wpAny_bind (wpAny_bind (m:=Builtin.Tuple.tupleExact _) (wpAny_newObj_type (wpAny_pure ⟨_,rfl,wpAny_pure h⟩) htake))
end
end HT
namespace L2
open PySem PySem.Spec PyProof.Rows
abbrev TO:=St→Hp→(Option Int→Hp→Prop)→Prop
def PO(X:Cx)(e:Option Expr)(t:TO):Prop:=
 ∀ (pins:List (Addr×Obj)) (s:Shared) (σ:St) (H:Hp) (Q:Option Int→Hp→Prop),Inv X pins σ H s→t σ H Q→
  wpAny (model X.prog X.w) X.A (evalPart e X.env) (fun u s'=>∃ o H',Inv X pins σ H' s'∧IsPart u o∧Q o H') X.xe s
def tNoPart:TO:=fun _ H Q=>Q none H
def tPart(t:TE):TO:=fun σ H Q=>t σ H fun x H1=>∃ i,x= .int i∧Q (some i) H1
section
variable {X:Cx} {e:Expr} {te:TE} {lo hi:Option Expr} {tl th:TO} {pos p2:Pos}
theorem po_none:PO X none tNoPart:=by
 intro pins s σ H Q I h
 rw [evalPart_none]
 exact wpAny_pure ⟨none,H,I,.none,h⟩
theorem po_some(h:PE X e te):PO X (some e) (tPart te):=by
 intro pins s σ H Q I hw
 rw [evalPart_some]
 refine thn (h pins s σ H _ I hw) fun u s1 ⟨x,H1,I1,r1,q1⟩=>?_
 obtain ⟨i,rfl,q⟩:=q1
 obtain ⟨t,rfl⟩:=r1
 exact ⟨some i,H1,I1,.int i t,q⟩
def SlR(X:Cx)(r:V→Option Int→Option Int→Hp→VK→Prop):Prop:=
 ∀ (pins:List (Addr×Obj)) (s:Shared) (σ:St) (H:Hp) (x:V) (v vl vu:Value) (lo hi:Option Int) (sl:Addr) (Q:VK),Inv X pins σ H s→RelV x v→s.heap.IsSliceOf sl vl vu .none→IsPart vl lo→IsPart vu hi→r x lo hi H Q→
  ∃ T id,typeLookup (.type T) "__getitem__"=pure (some (.builtin id))∧s.TypeIs v T∧wpAny (model X.prog X.w) X.A (getItem v (.ref sl)) (EP X pins σ Q) X.xe s
theorem SlR.or{r r':V→Option Int→Option Int→Hp→VK→Prop}(h:SlR X r)(h':SlR X r'):SlR X (fun x lo hi H Q=>r x lo hi H Q∨r' x lo hi H Q):=by
 intro pins s σ H x v vl vu lo hi sl Q I rx hs pl pu q
 rcases q with q | q
 ·exact h pins s σ H x v vl vu lo hi sl Q I rx hs pl pu q
 ·exact h' pins s σ H x v vl vu lo hi sl Q I rx hs pl pu q
def tSl(r:V→Option Int→Option Int→Hp→VK→Prop)(te:TE)(tl th:TO):TE:=fun σ H Q=>te σ H fun x H1=>tl σ H1 fun l H2=>th σ H2 fun u H3=>r x l u H3 Q
theorem pe_slice{r:V→Option Int→Option Int→Hp→VK→Prop}(hr:SlR X r)(he:PE X e te)(hl:PO X lo tl)(hu:PO X hi th):PE X (.Subscript e (.Slice lo hi none p2) pos) (tSl r te tl th):=by
 intro pins s σ H Q I h
 refine Subscript_ (thn (he pins s σ H _ I h) fun v s1 ⟨x,H1,I1,r1,q1⟩=>?_)
 refine wpAny_Slice (thn (hl pins s1 σ H1 _ I1 q1) fun vl s2 ⟨l,H2,I2,pl,q2⟩=>thn (hu pins s2 σ H2 _ I2 q2) fun vu s3 ⟨u,H3,I3,pu,q3⟩=>?_)
 rw [evalPart_none]
 refine wpAny_pure ?_
 have I4:Inv X pins σ H3 { s3 with heap:=s3.heap.push { cls:=.type "slice",data:=.fields #[vl,vu,.none] } }:=I3.kept (t':=s3.toks) fun b ob q=>Heap.get?_push_of_some _ q
 obtain ⟨T,id,hT,ht,hg⟩:=hr pins { s3 with heap:=s3.heap.push { cls:=.type "slice",data:=.fields #[vl,vu,.none] } } σ H3 x v vl vu l u s3.heap.objs.size Q I4 r1 (Heap.IsSliceOf.new ..) pl pu q3
 show wpAny (model X.prog X.w) X.A (subscriptTail e (.Slice lo hi none p2) v (.ref s3.heap.objs.size)) (EP X pins σ Q) X.xe { s3 with heap:=s3.heap.push { cls:=.type "slice",data:=.fields #[vl,vu,.none] } }
 exact tail_any (ops:= [.ref s3.heap.objs.size,v]) ht hT hg (by with_unfolding_all rfl)
def cutV(xs:List V)(lo hi:Option Int):List V:=(xs.drop (HT.sIx xs.length 0 lo)).take (HT.sIx xs.length xs.length hi - HT.sIx xs.length 0 lo)
theorem cutV_length(xs:List V)(lo hi:Option Int):(cutV xs lo hi).length≤xs.length:=by
 unfold cutV
 rw [List.length_take,List.length_drop]
 omega
def rSlT(K:PySem.W.Frag):V→Option Int→Option Int→Hp→VK→Prop:=fun x lo hi H Q=>∃ a xs,x= .ref a∧SqT K H a xs∧
 ¬ (HT.sIx xs.length 0 lo=0∧HT.sIx xs.length xs.length hi=xs.length)∧∀ p,H p=none→Q (.ref p) (upd H p (.tup (cutV xs lo hi)))
theorem sl_tup:SlR X (rSlT X.K):=by
 intro pins s σ H x v vl vu lo hi sl Q I rx hs pl pu h
 obtain ⟨a,xs,rfl,hx,hw,q⟩:=h
 cases rx
 obtain ⟨its,r,ht,hz⟩:=I.tuple hx
 have hlen:its.toArray.size=xs.length:=by rw [List.size_toArray];exact r.length.symm
 refine ⟨"tuple",_,PyProof.Rows.slot_tuple_getitem.lookup,ht.typeIs,?_⟩
 refine HT.getItem_tuple_cut ht hs pl pu (by rw [hlen];exact hw) ?_ (by rw [hlen];exact hz)
 rw [hlen]
 refine ⟨.ref s.heap.objs.size,_,I.laid (t':=s.toks) (o:=.tup (cutV xs lo hi)) (fun b ob q=>Heap.get?_push_of_some _ q) (Nat.le_refl _) ?_,rfl,q _ (I.hok.fresh (Nat.le_refl _))⟩
 exact ⟨Nat.le_trans (cutV_length xs lo hi) hz,_,(r.drop (HT.sIx xs.length 0 lo)).take (HT.sIx xs.length xs.length hi - HT.sIx xs.length 0 lo),IsTup.new _ _⟩
def rCatT(K:PySem.W.Frag):R2:=fun x y H Q=>∃ a b xs ys,x= .ref a∧y= .ref b∧SqT K H a xs∧SqT K H b ys∧xs≠ []∧xs.length+ys.length≤sizeLine∧
 (ys= []→Q (.ref a) H)∧(ys≠ []→∀ p,H p=none→Q (.ref p) (upd H p (.tup (xs++ys))))
theorem Vals.nil_iff{xs:List V}{us:List Value}(r:Vals xs us):us= []↔xs= []:=by
 cases r with
 | nil=>simp
 | cons _ _=>simp
theorem op_catT:OpR X (binaryOp .Add) (rCatT X.K):=by
 intro pins s σ H x y v u Q I rx ry h
 obtain ⟨a,b,xs,ys,rfl,rfl,ha,hb,hx,hz,q1,q2⟩:=h
 cases rx
 cases ry
 obtain ⟨its,r1,p1,_⟩:=I.tuple ha
 obtain ⟨its2,r2,p2,_⟩:=I.tuple hb
 refine HT.cat_tup p1 p2 (fun z=>hx (r1.nil_iff.mp z)) (fun z=>⟨.ref a,H,I,rfl,q1 (r2.nil_iff.mp z)⟩) (fun z=>?_) (by rw [← r1.length,← r2.length];exact hz)
 refine ⟨.ref s.heap.objs.size,_,I.laid (t':=s.toks) (o:=.tup (xs++ys)) (fun b ob q=>Heap.get?_push_of_some _ q) (Nat.le_refl _) ?_,rfl,q2 (fun w=>z (r2.nil_iff.mpr w)) _ (I.hok.fresh (Nat.le_refl _))⟩
 exact ⟨by rw [List.length_append];exact hz,_,r1.append r2,IsTup.new _ _⟩
end
end L2
namespace L2
open PySem PySem.Spec PyProof.Rows
def ixN(n:Nat)(i:Int):Option Nat:=if 0≤i then (if i<n then some i.toNat else none) else if -(n:Int)≤i then some (i+n).toNat else none
def atI{α:Type}(xs:List α)(i:Int):Option α:=(ixN xs.length i).bind fun j=>xs[j]?
theorem ixN_seq{n:Nat}{i:Int}{j:Nat}(h:ixN n i=some j):seqIndex? i n=some j∧j<n∧ -(n:Int)≤i∧i<n:=by
 unfold ixN at h
 by_cases h0:0≤i
 ·rw [if_pos h0] at h
  by_cases h1:i<n
  ·rw [if_pos h1] at h
   have e:i.toNat=j:=Option.some.inj h
   exact ⟨by rw [seqIndex_of h0 h1,e],by omega,by omega,h1⟩
  ·rw [if_neg h1] at h;cases h
 ·rw [if_neg h0] at h
  by_cases h1: -(n:Int)≤i
  ·rw [if_pos h1] at h
   have e:(i+n).toNat=j:=Option.some.inj h
   exact ⟨by rw [seqIndex_neg (by omega) h1,e],by omega,h1,by omega⟩
  ·rw [if_neg h1] at h;cases h
theorem atI_get{α:Type}{xs:List α}{i:Int}{v:α}(h:atI xs i=some v):∃ j,seqIndex? i xs.length=some j∧xs[j]? =some v∧j<xs.length∧ -(xs.length:Int)≤i∧i<xs.length:=by
 unfold atI at h
 cases e:ixN xs.length i with
 | none=>rw [e] at h;cases h
 | some j=>
  rw [e] at h
  obtain ⟨h1,h2,h3,h4⟩:=ixN_seq e
  exact ⟨j,h1,h,h2,h3,h4⟩
theorem atI_nat{α:Type}{xs:List α}{j:Nat}{v:α}(h:xs[j]? =some v):atI xs (j:Int)=some v:=by
 have hj:j<xs.length:=(List.getElem?_eq_some_iff.mp h).1
 have e:ixN xs.length (j:Int)=some j:=by
  unfold ixN
  rw [if_pos (by omega),if_pos (by omega)];simp
 unfold atI;rw [e];exact h
def PlainIx(b:Expr):Prop:=∀ o i,subscripted b false o i=operate [o,i] (getItem o i)
def IxR(X:Cx)(r:R2):Prop:=
 ∀ (value slice:Expr) (pins:List (Addr×Obj)) (s:Shared) (σ:St) (H:Hp) (x y:V) (v u:Value) (Q:VK),Inv X pins σ H s→RelV x v→RelV y u→r x y H Q→
  subscripted slice false v u=operate [v,u] (getItem v u)→wpAny (model X.prog X.w) X.A (subscriptTail value slice v u) (EP X pins σ Q) X.xe s
def MtR(X:Cx)(id:String)(r:V→List V→Hp→VK→Prop):Prop:=
 ∀ (pins:List (Addr×Obj)) (s:Shared) (σ:St) (H:Hp) (x:V) (xs:List V) (v:Value) (us:List Value) (Q:VK),Inv X pins σ H s→RelV x v→Vals xs us→r x xs H Q→
  wpAny (model X.prog X.w) X.A (call (.builtin id) (v::us)) (EP X pins σ Q) X.xe s
section
variable {X:Cx} {a b:Expr} {ta tb:TE} {pos:Pos}
theorem IxR.or{r r':R2}(h:IxR X r)(h':IxR X r'):IxR X (fun x y H Q=>r x y H Q∨r' x y H Q):=by
 intro value slice pins s σ H x y v u Q I rx ry q hs
 rcases q with q | q
 ·exact h value slice pins s σ H x y v u Q I rx ry q hs
 ·exact h' value slice pins s σ H x y v u Q I rx ry q hs
theorem MtR.or{id:String}{r r':V→List V→Hp→VK→Prop}(h:MtR X id r)(h':MtR X id r'):MtR X id (fun x xs H Q=>r x xs H Q∨r' x xs H Q):=by
 intro pins s σ H x xs v us Q I rx rs q
 rcases q with q | q
 ·exact h pins s σ H x xs v us Q I rx rs q
 ·exact h' pins s σ H x xs v us Q I rx rs q
theorem pe_ix{r:R2}(hr:IxR X r)(ha:PE X a ta)(hb:PE X b tb)(hs:PlainIx b):PE X (.Subscript a b pos) (tOp r ta tb):=by
 intro pins s σ H Q I h
 exact Subscript_ (binT ha hb I h fun v u s2 x y H2 I2 rx ry q=>hr a b pins s2 σ H2 x y v u Q I2 rx ry q (hs _ _))
def rIxL(K:PySem.W.Frag):R2:=fun x y H Q=>∃ p xs i v,x= .ref p∧y= .int i∧SqL K H p xs∧atI xs i=some v∧Q v H
def rIxT(K:PySem.W.Frag):R2:=fun x y H Q=>∃ p xs i v,x= .ref p∧y= .int i∧SqT K H p xs∧atI xs i=some v∧Q v H
def rIxS:R2:=fun x y H Q=>∃ z i c,x= .str z∧y= .int i∧z.length≤sizeLine∧atI z.cps.toList i=some c∧Q (.str ⟨#[c]⟩) H
theorem ix_list:IxR X (rIxL X.K):=by
 intro value slice pins s σ H x y v u Q I rx ry h hs
 obtain ⟨p,xs,i,z,rfl,rfl,hq,he,q⟩:=h
 cases rx
 obtain ⟨t,rfl⟩:=ry
 obtain ⟨its,r,pl,hz⟩:=I.list hq
 obtain ⟨j,h1,h2,h3,h4,h5⟩:=atI_get he
 obtain ⟨w,ew,rw'⟩:=r.get h2
 have hl:=r.length
 have hn:=line63
 have fin:EP X pins σ Q w s:=⟨z,H,I,rw',q⟩
 by_cases h0:0≤i
 ·have hj:i.toNat=j:=by
   rw [seqIndex_of h0 h5] at h1
   exact Option.some.inj h1
  exact item_listR pl.isList h0 (by omega) (by rw [hj];simpa using ew) fin hs
 ·have hj:(i+(its.toArray.size:Int)).toNat=j:=by
   rw [seqIndex_neg (by omega) h4] at h1
   rw [List.size_toArray,← hl]
   exact Option.some.inj h1
  exact subscriptTail_builtinR (x:=w) pl.isList.typeIs slot_list_getitem.lookup
   (wpAny_getItem_list_neg (Q:=fun r s'=>r=w∧EP X pins σ Q r s') pl.isList (by omega) (by rw [List.size_toArray]<;>omega) (by omega) (by rw [hj];simpa using ew) ⟨rfl,fin⟩) hs
theorem ix_tup:IxR X (rIxT X.K):=by
 intro value slice pins s σ H x y v u Q I rx ry h hs
 obtain ⟨p,xs,i,z,rfl,rfl,hq,he,q⟩:=h
 cases rx
 obtain ⟨t,rfl⟩:=ry
 obtain ⟨its,r,pl,hz⟩:=I.tuple hq
 obtain ⟨j,h1,h2,h3,h4,h5⟩:=atI_get he
 obtain ⟨w,ew,rw'⟩:=r.get h2
 have hl:=r.length
 have hn:=line63
 have fin:EP X pins σ Q w s:=⟨z,H,I,rw',q⟩
 exact subscriptTail_builtinR (x:=w) pl.typeIs slot_tuple_getitem.lookup
  (getItem_tuple (j:=j) (Q:=fun r s'=>r=w∧EP X pins σ Q r s') pl (by omega) (by omega) (by rw [List.size_toArray,← hl];exact h1) (by simpa using ew) ⟨rfl,fin⟩) hs
theorem ix_str:IxR X rIxS:=by
 intro value slice pins s σ H x y v u Q I rx ry h hs
 obtain ⟨z,i,c,rfl,rfl,hz,he,q⟩:=h
 obtain ⟨t,rfl⟩:=rx
 obtain ⟨t',rfl⟩:=ry
 obtain ⟨j,h1,h2,h3,h4,h5⟩:=atI_get he
 have hl:z.cps.toList.length=z.length:=by simp [Str.length]
 rw [hl] at h1 h4 h5
 have hn:=line63
 exact tail_any (typeIs_str s z t) slot_str_getitem.lookup (getItem_str (c:=c) (by
  have e1:decide (i< -(2 ^ 63:Int))=false:=decide_eq_false (by omega)
  have e2:decide (i≥2 ^ 63)=false:=decide_eq_false (by omega)
  rw [e1,e2,Bool.or_false]) (by rw [h1];simpa using h2) ⟨.str ⟨#[c]⟩,H,I.tok _,⟨_,rfl⟩,q⟩) hs
def rIx(K:PySem.W.Frag):R2:=fun x y H Q=>rIxL K x y H Q∨rIxT K x y H Q∨rIxS x y H Q
theorem ix_seq:IxR X (rIx X.K):=ix_list.or (ix_tup.or ix_str)
theorem Inv.lst{pins:List (Addr×Obj)}{σ:St}{H:Hp}{s:Shared}{p:Addr}{xs:List V}(I:Inv X pins σ H s)(h:H p=some (.lst xs)):
  ∃ (its:List Value) (n:Nat),Vals xs its∧s.heap.get? p=some { cls:=.type "list",data:=.seq its.toArray n }∧xs.length≤sizeLine:=by
 obtain ⟨z,its,n,r,e⟩:=I.hok p _ h
 exact ⟨its,n,r,e,z⟩
theorem slice_bounds(lo hi:Option Int)(n:Nat):(sliceBounds lo hi none n).1=((HT.sIx n 0 lo:Nat):Int)∧(sliceBounds lo hi none n).2.1=((HT.sIx n n hi:Nat):Int)∧(sliceBounds lo hi none n).2.2=1:=by
 refine ⟨?_,?_,rfl⟩
 ·cases lo with
  | none=>simp [sliceBounds,HT.sIx]
  | some i=>
   simp only [sliceBounds,HT.sIx,Option.getD_none,show (1:Int)>0 by decide,if_true]
   by_cases h:i<0
   ·simp only [h,if_true]<;>omega
   ·simp only [h,if_false]<;>omega
 ·cases hi with
  | none=>simp [sliceBounds,HT.sIx]
  | some i=>
   simp only [sliceBounds,HT.sIx,Option.getD_none,show (1:Int)>0 by decide,if_true]
   by_cases h:i<0
   ·simp only [h,if_true]<;>omega
   ·simp only [h,if_false]<;>omega
theorem slicePick_cut(its:List Value)(lo hi:Option Int):slicePick its.toArray lo hi none=((its.drop (HT.sIx its.length 0 lo)).take (HT.sIx its.length its.length hi - HT.sIx its.length 0 lo)).toArray:=by
 obtain ⟨h1,h2,h3⟩:=slice_bounds lo hi its.toArray.size
 unfold slicePick
 rw [h1,h2,h3]
 simp only [sliceRange_one,pick_run,List.size_toArray]<;>rfl
def rSlL(K:PySem.W.Frag):V→Option Int→Option Int→Hp→VK→Prop:=fun x lo hi H Q=>∃ a xs,x= .ref a∧SqL K H a xs∧∀ p,H p=none→Q (.ref p) (upd H p (.lst (cutV xs lo hi)))
theorem sl_list:SlR X (rSlL X.K):=by
 intro pins s σ H x v vl vu lo hi sl Q I rx hs pl pu h
 obtain ⟨a,xs,rfl,hx,q⟩:=h
 cases rx
 obtain ⟨its,r,ht,hz⟩:=I.list hx
 have hlen:=r.length
 refine ⟨"list",_,slot_list_getitem.lookup,ht.isList.typeIs,?_⟩
 refine wpAny_getItem_list_slice ht.isList hs pl pu .none (by simp) ?_ (by rw [List.size_toArray]<;>omega)
 rw [slicePick_cut,← hlen]
 refine ⟨.ref s.heap.objs.size,_,I.laid (t':=s.toks) (o:=.lst (cutV xs lo hi)) (fun b ob q=>Heap.get?_push_of_some _ q) (Nat.le_refl _) ?_,rfl,q _ (I.hok.fresh (Nat.le_refl _))⟩
 exact ⟨Nat.le_trans (cutV_length xs lo hi) hz,_,0,(r.drop (HT.sIx xs.length 0 lo)).take (HT.sIx xs.length xs.length hi - HT.sIx xs.length 0 lo),Heap.get?_push_size _ rfl⟩
def flatV:V→Bool
 | .non=>true
 | .bl _=>true
 | .int _=>true
 | .str _=>true
 | _=>false
def eqV:V→V→Bool
 | .non,.non=>true
 | .bl a,.bl b=>a==b
 | .bl a,.int b=>(if a then 1 else 0)==b
 | .int a,.bl b=>a==(if b then 1 else 0)
 | .int a,.int b=>a==b
 | .str a,.str b=>a==b
 | _,_=>false
theorem eqAt_V{A:Around}{s:Shared}{y x:V}{u v:Value}(ry:RelV y u)(rx:RelV x v)(fy:flatV y=true)(fx:flatV x=true):SeqAt.EqAt A s u v (eqV y x):=by
 cases y with
 | non=>
  cases ry
  cases x with
  | non=>cases rx;exact SeqAt.EqAt.same _
  | bl b=>cases rx;exact SeqAt.EqAt.none_bool b
  | int b=>obtain ⟨t,rfl⟩:=rx;exact SeqAt.EqAt.none_int b t
  | str b=>obtain ⟨t,rfl⟩:=rx;exact SeqAt.EqAt.none_str b t
  | _=>exact absurd (show false=true from fx) Bool.false_ne_true
 | bl a=>
  cases ry
  cases x with
  | non=>cases rx;exact SeqAt.EqAt.bool_none a
  | bl b=>cases rx;exact SeqAt.EqAt.bool_bool a b
  | int b=>obtain ⟨t,rfl⟩:=rx;exact SeqAt.EqAt.bool_int a b t
  | str b=>obtain ⟨t,rfl⟩:=rx;exact SeqAt.EqAt.bool_str a b t
  | _=>exact absurd (show false=true from fx) Bool.false_ne_true
 | int a=>
  obtain ⟨t',rfl⟩:=ry
  cases x with
  | non=>cases rx;exact SeqAt.EqAt.int_none a t'
  | bl b=>cases rx;exact SeqAt.EqAt.int_bool a t' b
  | int b=>obtain ⟨t,rfl⟩:=rx;exact SeqAt.EqAt.int_int a t' b t
  | str b=>obtain ⟨t,rfl⟩:=rx;exact SeqAt.EqAt.int_str a t' b t
  | _=>exact absurd (show false=true from fx) Bool.false_ne_true
 | str a=>
  obtain ⟨t',rfl⟩:=ry
  cases x with
  | non=>cases rx;exact SeqAt.EqAt.str_none a t'
  | bl b=>cases rx;exact SeqAt.EqAt.str_bool a t' b
  | int b=>obtain ⟨t,rfl⟩:=rx;exact SeqAt.EqAt.str_int a t' b t
  | str b=>obtain ⟨t,rfl⟩:=rx;exact SeqAt.EqAt.str_str a t' b t
  | _=>exact absurd (show false=true from fx) Bool.false_ne_true
 | _=>exact absurd (show false=true from fy) Bool.false_ne_true
theorem call_len_seq:CallR X (.builtin "len") (fun xs H Q=>∃ p ys,xs= [.ref p]∧(SqL X.K H p ys∨SqT X.K H p ys)∧Q (.int ys.length) H):=by
 intro pins s σ H xs us Q I r h
 obtain ⟨p,ys,rfl,hq,q⟩:=h
 obtain ⟨u,rfl,rx⟩:=vals1 r
 cases rx
 have hn:=line63
 rcases hq with hq | hq
 ·obtain ⟨its,r',pl,hz⟩:=I.list hq
  have hlen:=r'.length
  exact Calls.call_len_list pl.isList (by simp only [List.size_toArray]<;>omega) ⟨.int ys.length,H,I.tok _,⟨s.toks+1,by rw [List.size_toArray,hlen]⟩,q⟩
 ·obtain ⟨its,r',pl,hz⟩:=I.tuple hq
  have hlen:=r'.length
  exact len_tuple pl (by simp only [List.size_toArray]<;>omega) ⟨.int ys.length,H,I.tok _,⟨s.toks+1,by rw [List.size_toArray,hlen]⟩,q⟩
theorem call_len_str:CallR X (.builtin "len") (fun xs H Q=>∃ z,xs= [.str z]∧z.length≤sizeLine∧Q (.int z.length) H):=by
 intro pins s σ H xs us Q I r h
 obtain ⟨z,rfl,hz,q⟩:=h
 obtain ⟨u,rfl,t,rfl⟩:=vals1 r
 have hn:=line63
 exact len_str (by omega) ⟨.int z.length,H,I.tok _,⟨_,rfl⟩,q⟩
theorem CallR.or{f:Value}{r r':List V→Hp→VK→Prop}(h:CallR X f r)(h':CallR X f r'):CallR X f (fun xs H Q=>r xs H Q∨r' xs H Q):=by
 intro pins s σ H xs us Q I rs q
 rcases q with q | q
 ·exact h pins s σ H xs us Q I rs q
 ·exact h' pins s σ H xs us Q I rs q
theorem call_list_of:CallR X (.type "list") (fun xs H Q=>∃ p ys,xs= [.ref p]∧(SqL X.K H p ys∨SqT X.K H p ys)∧∀ l,H l=none→Q (.ref l) (upd H l (.lst ys))):=by
 intro pins s σ H xs us Q I r h
 obtain ⟨p,ys,rfl,hq,q⟩:=h
 obtain ⟨u,rfl,rx⟩:=vals1 r
 cases rx
 have fin:∀ (its:List Value),Vals ys its→ys.length≤sizeLine→∀ (h':Heap) (c':Nat),(∀ b o',s.heap.get? b=some o'→h'.get? b=some o')→
   h'.get? s.heap.objs.size=some { cls:=.type "list",dict:=none,data:=.seq its.toArray c',slots:= #[] }→EP X pins σ Q (.ref s.heap.objs.size) { s with heap:=h' }:=fun its r' hz h' c' kp e=>
  ⟨.ref s.heap.objs.size,_,I.laid (t':=s.toks) kp (Nat.le_refl _) (show ObjOk X.prog X.w _ h' _ (.lst ys) from ⟨hz,its,c',r',e⟩),rfl,q _ (I.hok.fresh (Nat.le_refl _))⟩
 rcases hq with hq | hq
 ·obtain ⟨its,r',pl,hz⟩:=I.list hq
  have hlen:=r'.length
  obtain ⟨o,ho,hc,n,hd⟩:=pl.isList
  exact call_list_seq p (.inl rfl) ho hc hd (fun h' c' kp e=>fin its r' hz h' c' kp e) (by simp only [List.size_toArray]<;>omega)
 ·obtain ⟨its,r',pl,hz⟩:=I.tuple hq
  have hlen:=r'.length
  obtain ⟨o,ho,hc,n,hd⟩:=pl
  exact call_list_seq p (.inr rfl) ho hc hd (fun h' c' kp e=>fin its r' hz h' c' kp e) (by simp only [List.size_toArray]<;>omega)
theorem call_tuple_of:CallR X (.type "tuple") (fun xs H Q=>∃ p ys,xs= [.ref p]∧((SqL X.K H p ys∧∀ l,H l=none→Q (.ref l) (upd H l (.tup ys)))∨(SqT X.K H p ys∧Q (.ref p) H))):=by
 intro pins s σ H xs us Q I r h
 obtain ⟨p,ys,rfl,h⟩:=h
 obtain ⟨u,rfl,rx⟩:=vals1 r
 cases rx
 rcases h with ⟨hq,q⟩ | ⟨hq,q⟩
 ·obtain ⟨its,r',pl,hz⟩:=I.list hq
  have hlen:=r'.length
  refine call_tuple_list pl.isList (fun h' kp=>?_) (by simp only [List.size_toArray]<;>omega)
  have I1:Inv X pins σ H { s with heap:=h' }:=I.kept (t':=s.toks) kp
  have I2:Inv X pins σ (upd H h'.objs.size (.tup ys)) { s with heap:=h'.push { cls:=.type "tuple",data:=.seq its.toArray } }:=
   I1.laid (t':=s.toks) (fun b o e=>Heap.get?_push_of_some _ e) (Nat.le_refl _) (show ObjOk X.prog X.w _ _ _ (.tup ys) from ⟨hz,its,r',IsTup.new _ _⟩)
  exact ⟨.ref h'.objs.size,_,I2,rfl,q _ (I1.hok.fresh (Nat.le_refl _))⟩
 ·obtain ⟨its,r',pl,hz⟩:=I.tuple hq
  exact call_tuple_same pl ⟨.ref p,H,I,rfl,q⟩
def tyV(K:PySem.W.Frag)(T:String)(x:V)(H:Hp):Prop:=match x with
 | .str _=>T="str"
 | .int _=>T="int"
 | .ref p=>(T="list"∧∃ xs,SqL K H p xs)∨(T="tuple"∧∃ o,K.lookup p=some o∧o.cls= .type "tuple"∧o.dict=none)∨
   (T="dict"∧((∃ kvs,H p=some (.dK kvs))∨∃ kvs,H p=some (.dT kvs)))∨(T="set"∧∃ S n,H p=some (.set S n))
 | _=>False
theorem tyV_is{pins:List (Addr×Obj)}{σ:St}{H:Hp}{s:Shared}{T:String}{x:V}{v:Value}(I:Inv X pins σ H s)(r:RelV x v)(ty:tyV X.K T x H):
  s.TypeIs v T∧∀ a,v= .ref a→∃ ob,s.heap.get? a=some ob∧ob.dict=none:=by
 cases x with
 | str z=>
  obtain ⟨t,rfl⟩:=r
  cases (show T="str" from ty)
  exact ⟨typeIs_str s z t,fun _ e=>nomatch e⟩
 | int i=>
  obtain ⟨t,rfl⟩:=r
  cases (show T="int" from ty)
  exact ⟨typeIs_int s i t,fun _ e=>nomatch e⟩
 | ref p=>
  cases r
  rcases ty with ⟨rfl,xs,hq⟩ | ⟨rfl,o,hk,hc,hd⟩ | ⟨rfl,hk⟩ | ⟨rfl,S,n,hk⟩
  ·obtain ⟨its,_,pl,_⟩:=I.list hq
   refine ⟨pl.isList.typeIs,fun a e=>?_⟩
   cases e
   obtain ⟨o,n,e,c,hd,_⟩:=pl
   exact ⟨o,e,hd⟩
  ·refine ⟨⟨o,I.kIn p o hk,hc⟩,fun a e=>?_⟩
   cases e
   exact ⟨o,I.kIn _ o hk,hd⟩
  ·have z:∃ o,s.heap.get? p=some o∧o.ExactDict:=by
    rcases hk with ⟨kvs,hk⟩ | ⟨kvs,hk⟩
    ·obtain ⟨_,_,_,_,o,_,_,e,ex,_⟩:=I.hok p _ hk
     exact ⟨o,e,ex⟩
    ·obtain ⟨_,_,_,_,o,_,_,e,ex,_⟩:=I.hok p _ hk
     exact ⟨o,e,ex⟩
   obtain ⟨o,e,ex⟩:=z
   refine ⟨⟨o,e,ex.1⟩,fun a e2=>?_⟩
   cases e2
   exact ⟨o,e,ex.2.1⟩
  ·obtain ⟨o,_,_,_,e,ex,_⟩:=I.hok p _ hk
   refine ⟨⟨o,e,ex.1⟩,fun a e2=>?_⟩
   cases e2
   exact ⟨o,e,ex.2.1⟩
 | _=>exact False.elim ty
def tBM(K:PySem.W.Frag)(T:String)(r:V→List V→Hp→VK→Prop)(to:TE)(t:TA):TE:=fun σ H Q=>to σ H fun x H1=>tyV K T x H1∧t σ H1 fun xs H2=>r x xs H2 Q
variable {o e:Expr} {es:List Expr} {to:TE} {t:TA} {name:Str} {apos cpos:Pos} {T id:String} {r:V→List V→Hp→VK→Prop}
theorem pe_bm(pa:PlainAttrs T)(slot:Slot T name id)(hty:typeOf (.builtin id)=pure (.type "method_descriptor"))(hm:MtR X id r)(ho:PE X o to)(ha:PA X (e::es) t)
  (hbase:attributeBase o name X.env (eval o X.env)=eval o X.env:=by rfl)
  (hfew:((backTo cpos (starEach (e::es) X.env)).all (fun x=>!x.1)&&(backToKw cpos (keywordEach [] X.env)).all (fun x=>x.1.isSome)
   &&decide ((e::es).length+([]:List Keyword).length+(if ([]:List Keyword).isEmpty then 0 else 1)<30))=true:=by rfl)
  (hline:(apos.endLine==cpos.line)=true:=by rfl) (hs:starEach (e::es) X.env=(false,eval e X.env)::starEach es X.env:=by rfl) (hplain:(backTo cpos (starEach es X.env)).any (·.1)=false:=by rfl):
  PE X (.Call (.Attribute o name apos) (e::es) [] cpos) (tBM X.K T r to t):=by
 intro pins s σ H Q I h
 refine wpAny_Call_method_late hbase hfew hline rfl (thn (ho pins s σ H _ I h) fun v s1 ⟨x,H1,I1,r1,ty,q1⟩=>?_)
 obtain ⟨h1,h2⟩:=tyV_is I1 r1 ty
 refine ⟨T,id,pa,slot,hty,h1,h2,?_⟩
 have hA:=ha cpos pins s1 σ H1 _ I1 q1
 rw [hs] at hA ⊢
 refine Calls.callWith_builtin (by show (false||(backTo cpos (starEach es X.env)).any (·.1))=false;rw [hplain]<;>rfl) (Calls.evalArgs_plain ?_)
 exact thn hA fun us s2 ⟨vs,H2,I2,r2,q2⟩=>hm pins s2 σ H2 x vs v us Q I2 r1 r2 q2
end
end L2
namespace L2
open PySem PySem.Spec PyProof.Rows
def MtM(X:Cx)(id:String)(r:V→List V→Hp→VK→Prop):Prop:=
 ∀ (pins:List (Addr×Obj)) (s:Shared) (σ:St) (H:Hp) (x:V) (xs:List V) (v:Value) (us:List Value) (Q:VK),Inv X pins σ H s→RelV x v→Vals xs us→r x xs H Q→
  wpAny (model X.prog X.w) X.A (call (.builtin id) (v::us)) (EP X pins σ Q) X.xe s
theorem Vals.one:∀ {x:V} {us:List Value},Vals [x] us→∃ u,us= [u]∧RelV x u
 | _,_,.cons r .nil=>⟨_,rfl,r⟩
theorem Vals.two:∀ {x y:V} {us:List Value},Vals [x,y] us→∃ u v,us= [u,v]∧RelV x u∧RelV y v
 | _,_,_,.cons r (.cons q .nil)=>⟨_,_,rfl,r,q⟩
theorem Vals.zero:∀ {us:List Value},Vals [] us→us= []
 | _,.nil=>rfl
theorem Vals.rep{xs:List V}{us:List Value}(h:Vals xs us):∀ k:Nat,Vals (List.replicate k xs).flatten (List.replicate k us).flatten
 | 0=>.nil
 | k+1=>by
  rw [List.replicate_succ,List.replicate_succ,List.flatten_cons,List.flatten_cons]
  exact Vals.append h (Vals.rep h k)
theorem foldl_rep(its:List Value):∀ (k:Nat) (acc:List Value),
  List.foldl (fun x1 x2=>x1++x2) acc.toArray (List.replicate k its.toArray)=(acc++(List.replicate k its).flatten).toArray
 | 0,acc=>by simp
 | k+1,acc=>by
  have e:acc.toArray++its.toArray=(acc++its).toArray:=by simp
  have e2:(acc++its)++(List.replicate k its).flatten=acc++(List.replicate (k+1) its).flatten:=by
   rw [List.replicate_succ,List.flatten_cons,List.append_assoc]
  rw [← e2,← foldl_rep its k (acc++its),← e,List.replicate_succ,List.foldl_cons]
section
variable {X:Cx} {pins:List (Addr×Obj)} {σ:St} {H:Hp} {s:Shared} {l b:Addr} {xs ys zs:List V}
theorem Inv.lset{its its':List Value}{n:Nat}{f:Array Value→Array Value}{t':Nat}(I:Inv X pins σ H s)(hH:H l=some (.lst xs))
  (e:s.heap.get? l=some { cls:=.type "list",data:=.seq its.toArray n }) (hf:f its.toArray=its'.toArray) (hv:Vals ys its') (hz:ys.length≤sizeLine):
  Inv X pins σ (upd H l (.lst ys)) { s with heap:=s.heap.update l (Obj.mapSeq f),toks:=t' }:=by
 have q:=PySem.IsL.update e f
 rw [hf] at q
 refine I.write (x:=l) (e:=l) (by rw [hH];exact trivial) (.inl rfl) (fun b' u hb hu=>(Heap.get?_update_other s.heap (Obj.mapSeq f) (Ne.symm hb)).trans hu) ⟨_,q⟩ ?_
 exact ⟨hz,its',_,hv,q⟩
theorem Inv.lnew{its:List Value}{t':Nat}(I:Inv X pins σ H s)(hv:Vals ys its)(hz:ys.length≤sizeLine):
  Inv X pins σ (upd H s.heap.objs.size (.lst ys)) { s with heap:=s.heap.push { cls:=.type "list",data:=.seq its.toArray },toks:=t' }:=
 I.laid (fun _ _ q=>Heap.get?_push_of_some _ q) (Nat.le_refl _) ⟨hz,its,0,hv,Heap.get?_push_size _ rfl⟩
theorem Inv.fresh(I:Inv X pins σ H s):H s.heap.objs.size=none:=I.hok.fresh (Nat.le_refl _)
theorem Inv.lstM(I:Inv X pins σ H s)(hH:H l=some (.lst xs)):xs.length≤sizeLine∧∃ (its:List Value) (n:Nat),Vals xs its∧xs.length=its.length∧s.heap.get? l=some { cls:=.type "list",data:=.seq its.toArray n }:=by
 obtain ⟨z,its,n,r,e⟩:=I.hok l _ hH
 exact ⟨z,its,n,r,r.length,e⟩
theorem notLongL{n:Nat}(h:n≤sizeLine):Builtin.List.listTooLong n=false:=by
 unfold Builtin.List.listTooLong
 exact decide_eq_false (by omega)
end
section
variable {X:Cx}
def rAppend:V→List V→Hp→VK→Prop:=fun x vs H Q=>∃ l xs y,x= .ref l∧vs= [y]∧H l=some (.lst xs)∧xs.length<sizeLine∧Q .non (upd H l (.lst (xs++ [y])))
theorem mt_append:MtM X "list.append" rAppend:=by
 intro pins s σ H x vs v us Q I rx rv h
 obtain ⟨l,xs,y,rfl,rfl,hH,hz,q⟩:=h
 cases rx
 obtain ⟨u,rfl,ru⟩:=rv.one
 obtain ⟨z,its,n,r,hl,e⟩:=I.lstM hH
 refine call_meets F.slot_list_append ⟨_,e,rfl⟩ F.entry_list_append (F.args_list_append_2 _ _) (PySem.list_append l its.toArray n u (by rw [List.size_toArray];omega)) ⟨e,?_⟩
 refine ⟨.non,_,I.lset (its':=its++ [u]) hH e (by simp) (r.append (.cons ru .nil)) ?_,rfl,q⟩
 rw [List.length_append,List.length_singleton]
 omega
def rCat:R2:=fun x y H Q=>∃ l b xs zs,x= .ref l∧y= .ref b∧H l=some (.lst xs)∧H b=some (.lst zs)∧xs.length+zs.length≤sizeLine∧∀ p,H p=none→Q (.ref p) (upd H p (.lst (xs++zs)))
theorem op_cat:OpR X (binaryOp .Add) rCat:=by
 intro pins s σ H x y v u Q I rx ry h
 obtain ⟨l,b,xs,zs,rfl,rfl,hH,hB,hz,q⟩:=h
 cases rx
 cases ry
 obtain ⟨z,its,n,r,hl,e⟩:=I.lstM hH
 obtain ⟨z2,its2,n2,r2,hl2,e2⟩:=I.lstM hB
 refine PySem.P.add_list e e2 ?_ (by rw [List.size_toArray,List.size_toArray];omega)
 have ea:its.toArray++its2.toArray=(its++its2).toArray:=by simp
 rw [ea]
 exact ⟨.ref _,_,I.lnew (t':=s.toks) (r.append r2) (by rw [List.length_append];omega),rfl,q _ I.fresh⟩
def rRep:R2:=fun x y H Q=>∃ l k xs,x= .ref l∧y= .int k∧H l=some (.lst xs)∧ -(2 ^ 63)≤k∧k<2 ^ 63∧xs.length * k.toNat≤sizeLine∧
 ∀ p,H p=none→Q (.ref p) (upd H p (.lst (List.replicate k.toNat xs).flatten))
theorem len_rep{α:Type}(xs:List α)(k:Nat):(List.replicate k xs).flatten.length=k * xs.length:=by
 induction k with
 | zero=>simp
 | succ k ih=>rw [List.replicate_succ,List.flatten_cons,List.length_append,ih,Nat.succ_mul,Nat.add_comm]
theorem op_rep:OpR X (binaryOp .Mult) rRep:=by
 intro pins s σ H x y v u Q I rx ry h
 obtain ⟨l,k,xs,rfl,rfl,hH,h1,h2,hz,q⟩:=h
 cases rx
 obtain ⟨t,rfl⟩:=ry
 obtain ⟨z,its,n,r,hl,e⟩:=I.lstM hH
 have hlen:its.toArray.size * k.toNat≤sizeLine:=by rw [List.size_toArray,← hl];exact hz
 have hcap:¬ its.toArray.size * k.toNat>(2 ^ 63 - 1) / 8:=by
  have:(sizeLine:Nat)≤(2 ^ 63 - 1) / 8:=by decide
  omega
 have hfit:¬ (!Builtin.List.listFitsIndex k)=true:=by
  rw [fitsIndex_both h1 h2]
  exact Bool.false_ne_true
 have hlong:¬ Builtin.List.listTooLong (its.toArray.size * k.toNat)=true:=by
  rw [notLongL hlen]
  exact Bool.false_ne_true
 have hnew:List.foldl (fun x1 x2=>x1++x2) #[] (List.replicate (if its.toArray.isEmpty=true then 0 else k.toNat) its.toArray)=(List.replicate k.toNat its).flatten.toArray:=by
  have f0:∀ m:Nat,List.foldl (fun x1 x2=>x1++x2) #[] (List.replicate m its.toArray)=(List.replicate m its).flatten.toArray:=fun m=>by
   have:=foldl_rep its m []
   rw [List.nil_append] at this
   exact this
  rw [f0]
  cases its with
  | nil=>simp
  | cons a r'=>rw [if_neg (by simp)]
 refine wpAny_binaryOp_repeat_ref (T:="list") (U:="int") (by decide) ⟨_,e,rfl⟩ (fun s'=>typeIs_int s' k t) noFill_list_mul F.fills_int_mul F.slot_int_rmul repeat_list F.slot_int_index.lookup
  (call_meets F.slot_int_rmul (typeIs_int s k t) F.entry_int_rmul (F.args_int_rmul_2 _ _) (int___rmul___int_list k t l its.toArray n)
   ⟨e,rfl,⟨_,e,rfl⟩,call_meets F.slot_list_mul ⟨_,e,rfl⟩ F.entry_list_mul (F.args_list_mul_2 _ _) (AutoListH.list___mul___list_int_3 l its.toArray n k t hfit hcap hlong) ⟨e,?_⟩⟩)
 rw [hnew]
 exact ⟨.ref _,_,I.lnew (t':=s.toks) (r.rep k.toNat) (by rw [len_rep,Nat.mul_comm];exact hz),rfl,q _ I.fresh⟩
end
section
variable {prog:Program} {w:World} {A:Around} {E:Value→Shared→Prop} {s:Shared}
set_option maxRecDepth 100000 in
end
section
variable {X:Cx}
end
end L2
namespace L2
open PySem PySem.Spec PyProof.Rows
section
variable {κ:Type} [DecidableEq κ]
def valV(kvs:List (κ×V))(k:κ):Option V:=(kvs.find? fun kv=>decide (kv.1=k)).map (·.2)
def putK(kvs:List (κ×V))(k:κ)(v:V):List (κ×V):=
 if (kvs.any fun kv=>decide (kv.1=k))=true then kvs.map (fun kv=>if kv.1=k then (kv.1,v) else kv) else kvs++ [(k,v)]
def dropK(kvs:List (κ×V))(k:κ):List (κ×V):=kvs.filter fun kv=>decide (kv.1≠k)
theorem valV_pos{p:κ×V}{r:List (κ×V)}{k:κ}(e:p.1=k):valV (p::r) k=some p.2:=by simp [valV,List.find?_cons,e]
theorem valV_neg{p:κ×V}{r:List (κ×V)}{k:κ}(e:¬ p.1=k):valV (p::r) k=valV r k:=by simp [valV,List.find?_cons,e]
theorem valV_any(k:κ):∀ kvs:List (κ×V),(kvs.any fun kv=>decide (kv.1=k))=(valV kvs k).isSome
 | []=>rfl
 | p::r=>by
  rw [List.any_cons]
  by_cases e:p.1=k
  ·simp only [valV_pos e,decide_eq_true e,Bool.true_or,Option.isSome_some]
  ·rw [valV_neg e,decide_eq_false e,Bool.false_or];exact valV_any k r
theorem length_putK(kvs:List (κ×V))(k:κ)(v:V):(putK kvs k v).length≤kvs.length+1:=by
 unfold putK
 split
 ·rw [List.length_map];omega
 ·rw [List.length_append,List.length_cons,List.length_nil];omega
theorem RelO.isSome_eq{o:Option V}{u:Option Value}(r:RelO o u):o.isSome=u.isSome:=by
 cases o with
 | none=>cases u with
  | none=>rfl
  | some _=>exact (show False from r).elim
 | some _=>cases u with
  | none=>exact (show False from r).elim
  | some _=>rfl
theorem RelO.getD{o:Option V}{u:Option Value}{d:V}{d':Value}(r:RelO o u)(rd:RelV d d'):RelV (o.getD d) (u.getD d'):=by
 cases o with
 | none=>cases u with
  | none=>exact rd
  | some _=>exact (show False from r).elim
 | some _=>cases u with
  | none=>exact (show False from r).elim
  | some _=>exact r
theorem KV.val{kvs:List (κ×V)}{vs:List (κ×Value)}(r:KV kvs vs)(k:κ):RelO (valV kvs k) (valueAt vs k):=by
 unfold KV at r
 induction r with
 | nil=>exact True.intro
 | @cons p q ps qs h t ih=>
  obtain ⟨h1,h2⟩:=h
  by_cases e:p.1=k
  ·have e':q.1=k:=h1.symm.trans e
   have b:valueAt (q::qs) k=some q.2:=by simp [valueAt,List.find?_cons,e']
   rw [valV_pos e,b];exact h2
  ·have e':¬ q.1=k:=fun z=>e (h1.trans z)
   have b:valueAt (q::qs) k=valueAt qs k:=by simp [valueAt,List.find?_cons,e']
   rw [valV_neg e,b];exact ih
theorem KV.any{kvs:List (κ×V)}{vs:List (κ×Value)}(r:KV kvs vs)(k:κ):(kvs.any fun kv=>decide (kv.1=k))=vs.any fun kv=>decide (kv.1=k):=by
 unfold KV at r
 induction r with
 | nil=>rfl
 | cons h t ih=>rw [List.any_cons,List.any_cons,ih,h.1]
theorem KV.repl{kvs:List (κ×V)}{vs:List (κ×Value)}(r:KV kvs vs)(k:κ){y:V}{u:Value}(ry:RelV y u):
  KV (kvs.map fun kv=>if kv.1=k then (kv.1,y) else kv) (vs.map fun kv=>if kv.1=k then (kv.1,u) else kv):=by
 unfold KV at r ⊢
 induction r with
 | nil=>exact .nil
 | @cons p q ps qs h t ih=>
  rw [List.map_cons,List.map_cons]
  refine .cons ?_ ih
  obtain ⟨h1,h2⟩:=h
  by_cases e:p.1=k
  ·rw [if_pos e,if_pos (h1.symm.trans e)];exact ⟨h1,ry⟩
  ·rw [if_neg e,if_neg (fun z=>e (h1.trans z))];exact ⟨h1,h2⟩
theorem KV.put{kvs:List (κ×V)}{vs:List (κ×Value)}(r:KV kvs vs)(k:κ){y:V}{u:Value}(ry:RelV y u):KV (putK kvs k y) (stored vs k u):=by
 unfold putK stored
 rw [r.any k]
 by_cases e:(vs.any fun kv=>decide (kv.1=k))=true
 ·rw [if_pos e,if_pos e];exact r.repl k ry
 ·rw [if_neg e,if_neg e];exact Paired.snoc r ⟨rfl,ry⟩
theorem KV.drop{kvs:List (κ×V)}{vs:List (κ×Value)}(r:KV kvs vs)(k:κ):KV (dropK kvs k) (without vs k):=by
 unfold KV at r ⊢
 unfold dropK without
 induction r with
 | nil=>exact .nil
 | @cons p q ps qs h t ih=>
  obtain ⟨h1,h2⟩:=h
  rw [List.filter_cons,List.filter_cons]
  by_cases e:p.1=k
  ·have a:¬ decide (p.1≠k)=true:=by simp [e]
   have b:¬ decide (q.1≠k)=true:=by simp [h1.symm.trans e]
   rw [if_neg a,if_neg b];exact ih
  ·have e':¬ q.1=k:=fun z=>e (h1.trans z)
   have a:decide (p.1≠k)=true:=by simp [e]
   have b:decide (q.1≠k)=true:=by simp [e']
   rw [if_pos a,if_pos b];exact .cons ⟨h1,h2⟩ ih
theorem KV.keys{kvs:List (κ×V)}{vs:List (κ×Value)}(r:KV kvs vs):kvs.map (·.1)=vs.map (·.1):=by
 unfold KV at r
 induction r with
 | nil=>rfl
 | cons h t ih=>rw [List.map_cons,List.map_cons,ih,h.1]
theorem KV.length{kvs:List (κ×V)}{vs:List (κ×Value)}(r:KV kvs vs):kvs.length=vs.length:=Paired.length r
theorem dropK_le(kvs:List (κ×V))(k:κ):(dropK kvs k).length≤kvs.length:=List.length_filter_le _ _
end
theorem kV_is{P:Program}{w:World}{k:Key}{u:Value}(r:RelV (kV k) u):(mixKind P w).is k u=true:=by
 cases k with
 | inl i=>obtain ⟨t,e⟩:=(show ∃ t,u=Value.int i t from r);subst e;exact mixKind_int P w i t
 | inr x=>obtain ⟨t,e⟩:=(show ∃ t,u=Value.str x t from r);subst e;exact mixKind_str P w x t
theorem items_are{P:Program}{w:World}:∀ {ks:List Key} {us:List Value},Vals (ks.map kV) us→ItemsAre (mixKind P w) ks us
 | [],_,r=>by rw [List.map_nil] at r;cases r;exact .nil
 | k::ks,_,r=>by
  rw [List.map_cons] at r
  cases r with
  | cons h t=>exact .cons (kV_is h) (items_are t)
abbrev KT(H:Hp):List (List Key×V)→List (List Key×Addr×Value)→Prop:=Paired fun p q=>p.1=q.1∧H q.2.1=some (.tup (p.1.map kV))∧RelV p.2 q.2.2
theorem KT.val{H:Hp}{kvs:List (List Key×V)}{xs:List (List Key×Addr×Value)}(r:KT H kvs xs)(k:List Key):RelO (valV kvs k) ((atKey xs k).map (·.2)):=by
 induction r with
 | nil=>exact True.intro
 | @cons p q ps qs h t ih=>
  obtain ⟨h1,_,h2⟩:=h
  by_cases e:p.1=k
  ·have e':q.1=k:=h1.symm.trans e
   have b:atKey (q::qs) k=some q.2:=by simp [atKey,List.find?_cons,e']
   rw [valV_pos e,b];exact h2
  ·have e':¬ q.1=k:=fun z=>e (h1.trans z)
   have b:atKey (q::qs) k=atKey qs k:=by simp [atKey,List.find?_cons,e']
   rw [valV_neg e,b];exact ih
theorem KT.repl{H:Hp}{kvs:List (List Key×V)}{xs:List (List Key×Addr×Value)}(r:KT H kvs xs)(k:List Key){y:V}{u:Value}(ry:RelV y u):
  KT H (kvs.map fun kv=>if kv.1=k then (kv.1,y) else kv) (xs.map (putAt k u)):=by
 induction r with
 | nil=>exact .nil
 | @cons p q ps qs h t ih=>
  rw [List.map_cons,List.map_cons]
  refine .cons ?_ ih
  obtain ⟨h1,h2,h3⟩:=h
  unfold putAt
  by_cases e:p.1=k
  ·rw [if_pos e,if_pos (h1.symm.trans e)];exact ⟨h1,h2,ry⟩
  ·rw [if_neg e,if_neg (fun z=>e (h1.trans z))];exact ⟨h1,h2,h3⟩
theorem KT.put{H:Hp}{kvs:List (List Key×V)}{xs:List (List Key×Addr×Value)}(r:KT H kvs xs)(k:List Key){b:Addr}{y:V}{u:Value}(hb:H b=some (.tup (k.map kV)))(ry:RelV y u):
  KT H (putK kvs k y) (storedH xs k b u):=by
 have e:(kvs.any fun kv=>decide (kv.1=k))=(atKey xs k).isSome:=by
  rw [valV_any,(r.val k).isSome_eq,Option.isSome_map]
 unfold putK storedH
 rw [e]
 by_cases q:(atKey xs k).isSome=true
 ·rw [if_pos q,if_pos q];exact r.repl k ry
 ·rw [if_neg q,if_neg q];exact Paired.snoc r ⟨rfl,hb,ry⟩
theorem KT.keeps{H H':Hp}{kvs:List (List Key×V)}{xs:List (List Key×Addr×Value)}(r:KT H kvs xs)(ht:∀ b ys,H b=some (.tup ys)→H' b=some (.tup ys)):KT H' kvs xs:=
 Paired.mapP r fun _ _ z=>⟨z.1,ht _ _ z.2.1,z.2.2⟩
section
variable {P:Program} {w:World} {H:Hp} {h:Heap} {a:Addr}
theorem rd_of{u:HO}(ok:HOk P w H h)(e:Rd H a u):ObjOk P w H h a u:=e.ok ok
theorem dk_rd{kvs:List (Key×V)}(ok:HOk P w H h)(e:Rd H a (.dK kvs)):kvs.length≤sizeLine∧(a==sysModules)=false∧∃ vs,KV kvs vs∧h.DictOf (mixKind P w) a vs:=
 show ObjOk P w H h a (.dK kvs) from rd_of ok e
theorem dk_of{kvs:List (Key×V)}(ok:HOk P w H h)(e:H a=some (.dK kvs)):kvs.length≤sizeLine∧(a==sysModules)=false∧∃ vs,KV kvs vs∧h.DictOf (mixKind P w) a vs:=dk_rd ok (.inl e)
theorem key_of{ks:List Key}(ok:HOk P w H h)(e:H a=some (.tup (ks.map kV))):(tupleKind (mixKind P w)).is h ks a:=by
 obtain ⟨_,its,r,o,h1,h2,n,h3⟩:=(show ObjOk P w H h a (.tup (ks.map kV)) from ok a _ e)
 exact ⟨o,its.toArray,n,h1,h2,h3,by simpa using items_are r⟩
theorem dt_rd{kvs:List (List Key×V)}(ok:HOk P w H h)(e:Rd H a (.dT kvs)):kvs.length≤sizeLine∧(a==sysModules)=false∧
  ∃ xs,KT H kvs xs∧h.DictOfH (tupleKind (mixKind P w)) a xs:=by
 obtain ⟨z,y,xs,r,o,es,ep,h1,h2,h3,h4,h5⟩:=(show ObjOk P w H h a (.dT kvs) from rd_of ok e)
 refine ⟨z,y,xs,r,o,es,ep,h1,h2,h3,h4,fun x hx=>?_,h5⟩
 have all:∀ {l:List (List Key×V)} {m:List (List Key×Addr×Value)},KT H l m→∀ x∈m,(tupleKind (mixKind P w)).is h x.1 x.2.1:=by
  intro l m q
  induction q with
  | nil=>intro x hx;exact nomatch hx
  | @cons p q ps qs hq t ih=>
   intro x hx
   rcases List.mem_cons.mp hx with e | hx
   ·subst e
    exact key_of ok (by rw [← hq.1];exact hq.2.1)
   ·exact ih x hx
 exact all r x hx
theorem dt_of{kvs:List (List Key×V)}(ok:HOk P w H h)(e:H a=some (.dT kvs)):kvs.length≤sizeLine∧(a==sysModules)=false∧
  ∃ xs,KT H kvs xs∧h.DictOfH (tupleKind (mixKind P w)) a xs:=dt_rd ok (.inl e)
end
def DGet(H:Hp)(a:Addr)(y:V)(r:Option V):Prop:=
 (∃ kvs k,Rd H a (.dK kvs)∧y=kV k∧r=valV kvs k)∨∃ kvs k b,Rd H a (.dT kvs)∧y= .ref b∧H b=some (.tup (k.map kV))∧r=valV kvs k
def DPut(H:Hp)(a:Addr)(y v:V)(H':Hp):Prop:=
 (∃ kvs k,H a=some (.dK kvs)∧y=kV k∧kvs.length<sizeLine∧H'=upd H a (.dK (putK kvs k v)))∨
 ∃ kvs k b,H a=some (.dT kvs)∧y= .ref b∧H b=some (.tup (k.map kV))∧kvs.length<sizeLine∧H'=upd H a (.dT (putK kvs k v))
theorem DGet.k{H:Hp}{a:Addr}{kvs:List (Key×V)}{k:Key}(e:H a=some (.dK kvs)):DGet H a (kV k) (valV kvs k):=.inl ⟨kvs,k,.inl e,rfl,rfl⟩
theorem DGet.t{H:Hp}{a b:Addr}{kvs:List (List Key×V)}{k:List Key}(e:H a=some (.dT kvs))(eb:H b=some (.tup (k.map kV))):DGet H a (.ref b) (valV kvs k):=.inr ⟨kvs,k,b,.inl e,rfl,eb,rfl⟩
theorem DPut.k{H:Hp}{a:Addr}{kvs:List (Key×V)}{k:Key}{v:V}(e:H a=some (.dK kvs))(hl:kvs.length<sizeLine):DPut H a (kV k) v (upd H a (.dK (putK kvs k v))):=.inl ⟨kvs,k,e,rfl,hl,rfl⟩
theorem DPut.t{H:Hp}{a b:Addr}{kvs:List (List Key×V)}{k:List Key}{v:V}(e:H a=some (.dT kvs))(eb:H b=some (.tup (k.map kV)))(hl:kvs.length<sizeLine):
  DPut H a (.ref b) v (upd H a (.dT (putK kvs k v))):=.inr ⟨kvs,k,b,e,rfl,eb,hl,rfl⟩
section
variable {X:Cx} {pins:List (Addr×Obj)} {σ:St} {H:Hp} {s:Shared} {a:Addr} {y v:V} {u r:Value} {o:Option V} {A:Around} {E:Value→Shared→Prop}
theorem Inv.big(I:Inv X pins σ H s):sysModules<s.heap.objs.size:=by
 have h:mainGlobals<s.heap.objs.size:=(I.mod.glob.keeps I.bk).lt
 exact Nat.lt_trans (by decide) h
theorem d_getItem{Q:Value→Shared→Prop}(hu:A.units+1<cLine)(I:Inv X pins σ H s)(g:DGet H a y (some v))(ry:RelV y u)(h:∀ w' s',Inv X pins σ H s'→RelV v w'→Q w' s'):
  wpAny (model X.prog X.w) A (getItem (.ref a) u) Q E s:=by
 rcases g with ⟨kvs,k,e,ey,l⟩ | ⟨kvs,k,b,e,ey,eb,l⟩
 ·subst ey
  obtain ⟨z,hd,vs,rel,dd⟩:=dk_rd I.hok e
  obtain ⟨w',hw,rw'⟩:=RelO.some_of (v:=v) (o:=valueAt vs k) (by rw [l];exact rel.val k)
  exact wpAny_getItem_of (kV_is ry) dd.mapOf hw (h w' _ (I.tok _) rw')
 ·subst ey
  cases (show u=Value.ref b from ry)
  obtain ⟨z,hd,xs,rel,dd⟩:=dt_rd I.hok e
  obtain ⟨w',hw,rw'⟩:=RelO.some_of (v:=v) (o:=(atKey xs k).map (·.2)) (by rw [l];exact rel.val k)
  obtain ⟨p,hp,hp2⟩:=Option.map_eq_some_iff.mp hw
  refine wpAny_getItem_heap (tupleKind_room_in1 hu) (key_of I.hok eb) dd hp ?_
  rw [hp2]
  exact h w' _ (I.tok _) rw'
theorem d_in{Q:Value→Shared→Prop}(hu:A.units+1<cLine)(I:Inv X pins σ H s)(g:DGet H a y o)(ry:RelV y u)(h:∀ s',Inv X pins σ H s'→Q (.bool o.isSome) s'):
  wpAny (model X.prog X.w) A (compareOp .In u (.ref a)) Q E s:=by
 rcases g with ⟨kvs,k,e,ey,l⟩ | ⟨kvs,k,b,e,ey,eb,l⟩
 ·subst ey
  obtain ⟨z,hd,vs,rel,dd⟩:=dk_rd I.hok e
  refine wpAny_in_of (kV_is ry) hd dd.mapOf ?_
  rw [← (rel.val k).isSome_eq,← l]
  exact h _ (I.tok _)
 ·subst ey
  cases (show u=Value.ref b from ry)
  obtain ⟨z,hd,xs,rel,dd⟩:=dt_rd I.hok e
  refine wpAny_in_heap (tupleKind_room_in1 hu) (key_of I.hok eb) hd dd ?_
  have q:=(rel.val k).isSome_eq
  rw [Option.isSome_map] at q
  rw [← q,← l]
  exact h _ (I.tok _)
theorem d_notIn{Q:Value→Shared→Prop}(hu:A.units+1<cLine)(I:Inv X pins σ H s)(g:DGet H a y o)(ry:RelV y u)(h:∀ s',Inv X pins σ H s'→Q (.bool (!o.isSome)) s'):
  wpAny (model X.prog X.w) A (compareOp .NotIn u (.ref a)) Q E s:=by
 rcases g with ⟨kvs,k,e,ey,l⟩ | ⟨kvs,k,b,e,ey,eb,l⟩
 ·subst ey
  obtain ⟨z,hd,vs,rel,dd⟩:=dk_rd I.hok e
  refine wpAny_notIn_of (kV_is ry) hd dd.mapOf ?_
  rw [← (rel.val k).isSome_eq,← l]
  exact h _ (I.tok _)
 ·subst ey
  cases (show u=Value.ref b from ry)
  obtain ⟨z,hd,xs,rel,dd⟩:=dt_rd I.hok e
  refine wpAny_notIn_heap (tupleKind_room_in1 hu) (key_of I.hok eb) hd dd ?_
  have q:=(rel.val k).isSome_eq
  rw [Option.isSome_map] at q
  rw [← q,← l]
  exact h _ (I.tok _)
theorem d_write{h':Heap}{t':Nat}{ob:HO}(I:Inv X pins σ H s)(mu:Mut (H a))(hs:Heap.SameBut a s.heap h')(he:∃ q,h'.get? a=some q)(new:ObjOk X.prog X.w (upd H a ob) h' a ob):
  Inv X pins σ (upd H a ob) { s with heap:=h',toks:=t' }:=
 I.write (x:=a) (e:=a) mu (.inl rfl) (fun b q hb z=>(hs.2 b hb).trans z) he new
theorem dk_new{P:Program}{w:World}{H':Hp}{h':Heap}{kvs:List (Key×V)}{vs:List (Key×Value)}(z:kvs.length≤sizeLine)(hd:(a==sysModules)=false)(rel:KV kvs vs)(dd:h'.DictOf (mixKind P w) a vs):
  ObjOk P w H' h' a (.dK kvs):=⟨z,hd,vs,rel,dd⟩
theorem d_setItem{H':Hp}{Q:Unit→Shared→Prop}(hu:A.units+1<cLine)(I:Inv X pins σ H s)(g:DPut H a y v H')(ry:RelV y u)(rv:RelV v r)(h:∀ s',Inv X pins σ H' s'→Q () s'):
  wpAny (model X.prog X.w) A (setItem (.ref a) u r) Q E s:=by
 rcases g with ⟨kvs,k,e,ey,l,eH⟩ | ⟨kvs,k,b,e,ey,eb,l,eH⟩
 ·subst ey eH
  obtain ⟨z,hd,vs,rel,dd⟩:=dk_of I.hok e
  have hz:vs.length≤sizeLine:=by rw [← rel.length];exact z
  have hl:(putK kvs k v).length≤sizeLine:=by have:=length_putK kvs k v;omega
  refine wpAny_setItem_pairs (hsz:=hz) (kV_is ry) dd fun h' dd' hs=>h _ ?_
  have he:∃ q,h'.get? a=some q:=let ⟨q,_,_,hq,_⟩:=dd';⟨q,hq⟩
  exact d_write I (by rw [e];exact True.intro) hs he (dk_new hl hd (rel.put k rv) dd')
 ·subst ey eH
  cases (show u=Value.ref b from ry)
  obtain ⟨z,hd,xs,rel,dd⟩:=dt_of I.hok e
  have hz:xs.length≤sizeLine:=by rw [← Paired.length rel];exact z
  have hl:(putK kvs k v).length≤sizeLine:=by have:=length_putK kvs k v;omega
  refine wpAny_setItem_heap (hsz:=hz) (tupleKind_room_in1 hu) (key_of I.hok eb) dd fun h' dd' hs=>h _ ?_
  obtain ⟨q,es,ep,hq,h2,h3,h4,_,h5⟩:=dd'
  refine d_write I (by rw [e];exact True.intro) hs ⟨q,hq⟩ ⟨hl,hd,_,(rel.put k eb rv).keeps fun c ys ec=>?_,q,es,ep,hq,h2,h3,h4,h5⟩
  rw [upd_ne (ne_of ec e (fun z=>nomatch z))]
  exact ec
end
section
variable {X:Cx} {pins:List (Addr×Obj)} {σ:St} {H:Hp} {s:Shared} {a:Addr} {kvs:List (Key×V)} {k:Key} {u:Value} {A:Around} {E:Value→Shared→Prop}
theorem d_pop{v:V}{more:List Value}{Q:Value→Shared→Prop}(I:Inv X pins σ H s)(e:H a=some (.dK kvs))(ry:RelV (kV k) u)(l:valV kvs k=some v)(hm:more= []∨∃ x,more= [x])
  (h:∀ w' s',Inv X pins σ (upd H a (.dK (dropK kvs k))) s'→RelV v w'→Q w' s'):wpAny (model X.prog X.w) A (call (.builtin "dict.pop") (.ref a::u::more)) Q E s:=by
 obtain ⟨z,hd,vs,rel,dd⟩:=dk_of I.hok e
 obtain ⟨w',hw,rw'⟩:=RelO.some_of (v:=v) (o:=valueAt vs k) (by rw [← l];exact rel.val k)
 have hp:(keyPart u).isSome=true:=by
  cases k with
  | inl i=>obtain ⟨t,q⟩:=(show ∃ t,u=Value.int i t from ry);subst q;rfl
  | inr x=>obtain ⟨t,q⟩:=(show ∃ t,u=Value.str x t from ry);subst q;rfl
 have ha:argsOk "dict.pop" ⟨.ref a::u::more,[]⟩:=by
  rcases hm with q | ⟨x,q⟩
  ·subst q;exact PySem.F.args_dict_pop_2 _ _
  ·subst q;exact PySem.F.args_dict_pop_3 _ _ _
 refine call_meetsIn PySem.F.slot_dict_pop dd.typeIs PySem.F.entry_dict_pop ha (meets_dict_pop_there (mixKind X.prog X.w) a (kV_is ry) more hm hp)
  ⟨vs,w',dd,by rw [← rel.length];exact z,hw,fun h' dd' hs=>h w' _ ?_ rw'⟩
 have he:∃ q,h'.get? a=some q:=let ⟨q,_,_,hq,_⟩:=dd';⟨q,hq⟩
 exact d_write I (by rw [e];exact True.intro) hs he (dk_new (Nat.le_trans (dropK_le kvs k) z) hd (rel.drop k) dd')
theorem d_len{Q:Value→Shared→Prop}(I:Inv X pins σ H s)(e:Rd H a (.dK kvs))(h:∀ t s',Inv X pins σ H s'→Q (.int kvs.length t) s'):wpAny (model X.prog X.w) A (call (.builtin "len") [.ref a]) Q E s:=by
 obtain ⟨z,hd,vs,rel,dd⟩:=dk_rd I.hok e
 refine call_len_dict hd dd (by rw [← rel.length];rw [sizeLine_eq] at z;omega) ?_
 rw [← rel.length]
 exact h _ _ (I.tok _)
end
theorem dict_typeIs{X:Cx}{pins:List (Addr×Obj)}{σ:St}{H:Hp}{s:Shared}{a:Addr}{y:V}{o:Option V}(I:Inv X pins σ H s)(g:DGet H a y o):s.TypeIs (.ref a) "dict":=by
 rcases g with ⟨kvs,k,e,_,_⟩ | ⟨kvs,k,b,e,_,_,_⟩
 ·obtain ⟨_,_,vs,_,dd⟩:=dk_rd I.hok e
  exact dd.typeIs
 ·obtain ⟨_,_,xs,_,dd⟩:=dt_rd I.hok e
  exact dd.typeIs
def sDPut(td ty tv:TE):TS:=fun D σ H=>tv σ H fun v H1=>td σ H1 fun x H2=>ty σ H2 fun y H3=>∃ a H4,x= .ref a∧DPut H3 a y v H4∧D.nx σ H4
section
variable {X:Cx} {o i e value:Expr} {pos pos' tpos:Pos} {td ty tv:TE}
theorem ps_dput(hu:X.A.units+1<cLine)(ho:PE X o td)(hi:PE X i ty)(hv:PE X value tv)(hs:swapsWith value (some (.Subscript o i pos')) pos.line X.env=pure false):
  PS X (.Assign [.Subscript o i pos'] value pos) (sDPut td ty tv):=by
 intro pins s σ H D I h
 refine wpAny_Assign_Subscript (thn (hv pins s σ H _ I h) fun r s1 ⟨v,H1,I1,rv,q1⟩=>thn (ho pins s1 σ H1 _ I1 q1) fun u s2 ⟨x,H2,I2,rx,q2⟩=>thn (hi pins s2 σ H2 _ I2 q2) fun iv s3 ⟨y,H3,I3,ry,a,H4,ex,g,q3⟩=>?_) hs
 subst ex
 obtain rfl:u=Value.ref a:=rx
 exact d_setItem hu I3 g ry rv fun s4 I4=>⟨σ,H4,I4,q3⟩
end
theorem dk_empty{P:Program}{w:World}{H:Hp}(h:Heap)(hb:sysModules<h.objs.size):ObjOk P w H (h.push { cls:=.type "dict",data:=.dict #[] }) h.objs.size (.dK []):=
 ⟨Nat.zero_le _,beq_eq_false_iff_ne.mpr (Ne.symm (Nat.ne_of_lt hb)),[],.nil,Heap.DictOf.new h⟩
def tDNewK:TE:=fun _ H Q=>∀ p,H p=none→Q (.ref p) (upd H p (.dK []))
section
variable {X:Cx} {pos:Pos}
theorem pe_dnewK:PE X (.Dict [] [] pos) tDNewK:=fun pins s σ H Q I h=>
 wpAny_Dict_empty ⟨.ref s.heap.objs.size,_,I.laid (a:=s.heap.objs.size) (o:=.dK []) (t':=s.toks) (fun _ _ q=>Heap.get?_push_of_some _ q) (Nat.le_refl _) (dk_empty s.heap I.big),rfl,h _ (I.hok.fresh (Nat.le_refl _))⟩
end
def tPairs:List (TE×TE)→St→Hp→(List (V×V)→Hp→Prop)→Prop
 | [],_,H,Q=>Q [] H
 | (tk,tv)::r,σ,H,Q=>tk σ H fun x H1=>tv σ H1 fun y H2=>tPairs r σ H2 fun ps H3=>Q ((x,y)::ps) H3
abbrev VV:List (V×V)→List (Value×Value)→Prop:=Paired fun p q=>RelV p.1 q.1∧RelV p.2 q.2
def PPs(X:Cx)(pos:Pos)(keys:List (Option Expr))(values:List Expr)(trs:List (TE×TE)):Prop:=
 ∀ (pins:List (Addr×Obj)) (s:Shared) (σ:St) (H:Hp) (Q:List (V×V)→Hp→Prop),Inv X pins σ H s→tPairs trs σ H Q→
  wpAny (model X.prog X.w) X.A (evalPairs (pairTrees keys values X.env pos)) (fun vs s'=>∃ ps H',Inv X pins σ H' s'∧VV ps vs∧Q ps H') X.xe s
theorem pps_nil{X:Cx}{pos:Pos}:PPs X pos [] [] []:=fun pins s σ H Q I h=>pairTrees_nil_walk ⟨[],H,I,.nil,h⟩
theorem pps_cons{X:Cx}{pos:Pos}{k v:Expr}{ks:List (Option Expr)}{vs:List Expr}{tk tv:TE}{trs:List (TE×TE)}(hk:PE X k tk)(hv:PE X v tv)(hr:PPs X pos ks vs trs):
  PPs X pos (some k::ks) (v::vs) ((tk,tv)::trs):=fun pins s σ H Q I h=>
 pairTrees_cons_walk (thn (hk pins s σ H _ I h) fun u s1 ⟨x,H1,I1,rx,q1⟩=>thn (hv pins s1 σ H1 _ I1 q1) fun w2 s2 ⟨y,H2,I2,ry,q2⟩=>
  thn (hr pins s2 σ H2 _ I2 q2) fun ws s3 ⟨ps,H3,I3,rel,q3⟩=>⟨(x,y)::ps,H3,I3,.cons ⟨rx,ry⟩ rel,q3⟩)
def mergeK(kvs more:List (Key×V)):List (Key×V):=more.foldl (fun acc kv=>putK acc kv.1 kv.2) kvs
theorem KV.merge:∀ {more:List (Key×V)} {rs:List (Key×Value)} {kvs:List (Key×V)} {vs:List (Key×Value)},KV more rs→KV kvs vs→KV (mergeK kvs more) (merged vs rs):=by
 intro more rs kvs vs r
 unfold KV at r
 induction r generalizing kvs vs with
 | nil=>intro q;exact q
 | @cons p q ps qs h t ih=>
  intro r0
  have e:KV (putK kvs p.1 p.2) (stored vs q.1 q.2):=by
   have:=r0.put p.1 h.2
   rw [← h.1];exact this
  exact ih e
theorem length_mergeK:∀ (more kvs:List (Key×V)),(mergeK kvs more).length≤kvs.length+more.length
 | [],kvs=>by show kvs.length≤kvs.length+0;omega
 | p::r,kvs=>by
  have h1:=length_mergeK r (putK kvs p.1 p.2)
  have h2:=length_putK kvs p.1 p.2
  show (mergeK (putK kvs p.1 p.2) r).length≤_
  rw [List.length_cons];omega
theorem carries_of{P:Program}{w:World}:∀ {kvs:List (Key×V)} {ws:List (Value×Value)},VV (kvs.map fun kv=>(kV kv.1,kv.2)) ws→∃ rs,Carries (mixKind P w) ws rs∧KV kvs rs
 | [],_,r=>by rw [List.map_nil] at r;cases r;exact ⟨[],True.intro,.nil⟩
 | p::kvs,_,r=>by
  rw [List.map_cons] at r
  cases r with
  | @cons a b as bs h t=>
   obtain ⟨rs,c,q⟩:=carries_of (P:=P) (w:=w) t
   obtain ⟨b1,b2⟩:=b
   exact ⟨(p.1,b2)::rs,⟨kV_is h.1,rfl,c⟩,.cons ⟨rfl,h.2⟩ q⟩
def tDisp(trs:List (TE×TE)):TE:=fun σ H Q=>∀ p,H p=none→tPairs trs σ (upd H p (.dK [])) fun ps H2=>H2 p=some (.dK [])∧∃ kvs:List (Key×V),ps=kvs.map (fun kv=>(kV kv.1,kv.2))∧kvs.length≤15∧Q (.ref p) (upd H2 p (.dK (mergeK [] kvs)))
theorem pe_disp{X:Cx}{pos:Pos}{keys:List (Option Expr)}{values:List Expr}{trs:List (TE×TE)}(h:PPs X pos keys values trs)(hall:keys.all (·.isSome)=true)(hl:keys.length=values.length)(h0:keys≠ [])
  (h15:keys.length≤15):PE X (.Dict keys values pos) (tDisp trs):=by
 intro pins s σ H Q I q
 have hn:=I.hok.fresh (Nat.le_refl s.heap.objs.size)
 have I1:=I.laid (a:=s.heap.objs.size) (o:=.dK []) (h':=s.heap.push { cls:=.type "dict",data:=.dict #[] }) (t':=s.toks) (fun _ _ q=>Heap.get?_push_of_some _ q) (Nat.le_refl _) (dk_empty s.heap I.big)
 refine wpAny_Dict_walk (knd:=mixKind X.prog X.w) hall hl h0 h15 (thn (h pins _ σ _ _ I1 (q _ hn)) fun ws s2 ⟨ps,H2,I2,rel,e,kvs,ep,lk,q2⟩=>?_)
 subst ep
 obtain ⟨rs,c,rk⟩:=carries_of (P:=X.prog) (w:=X.w) rel
 obtain ⟨z,hd,vs0,r0,dd⟩:=dk_of I2.hok e
 cases r0
 refine ⟨rs,c,dd,fun h' dd' hs=>⟨.ref s.heap.objs.size,_,?_,rfl,q2⟩⟩
 have hz:(mergeK [] kvs).length≤sizeLine:=by
  have h1:=length_mergeK kvs []
  rw [List.length_nil] at h1
  rw [sizeLine_eq];omega
 have he:∃ q,h'.get? s.heap.objs.size=some q:=let ⟨q,_,_,hq,_⟩:=dd';⟨q,hq⟩
 exact d_write I2 (by rw [e];exact True.intro) hs he (dk_new hz hd (rk.merge .nil) dd')
structure M1(X:Cx)(o:Expr)(m:Str)(apos:Pos)(e:Expr)(cpos:Pos):Prop where
 base:attributeBase o m X.env (eval o X.env)=eval o X.env
 few:((backTo cpos (starEach [e] X.env)).all (fun x=>!x.1)&&(backToKw cpos (keywordEach [] X.env)).all (fun x=>x.1.isSome)
  &&decide (([e]:List Expr).length+([]:List Keyword).length+(if ([]:List Keyword).isEmpty then 0 else 1)<30))=true
 line:(apos.endLine==cpos.line)=true
 trees:backTo cpos (starEach [e] X.env)= [(false,eval e X.env)]
def IsD(H:Hp)(a:Addr):Prop:=(∃ kvs,Rd H a (.dK kvs))∨∃ kvs,Rd H a (.dT kvs)
theorem isD_at{X:Cx}{pins:List (Addr×Obj)}{σ:St}{H:Hp}{s:Shared}{a:Addr}(I:Inv X pins σ H s)(d:IsD H a):
  s.TypeIs (.ref a) "dict"∧(∀ b,Value.ref a= .ref b→∃ ob,s.heap.get? b=some ob∧ob.dict=none)∧(a==sysModules)=false:=by
 rcases d with ⟨kvs,e⟩ | ⟨kvs,e⟩
 ·obtain ⟨_,hd,vs,_,dd⟩:=dk_rd I.hok e
  refine ⟨dd.typeIs,fun b q=>?_,hd⟩
  cases q
  obtain ⟨ob,_,_,h1,h2,_⟩:=dd
  exact ⟨ob,h1,h2.2.1⟩
 ·obtain ⟨_,hd,xs,_,dd⟩:=dt_rd I.hok e
  refine ⟨dd.typeIs,fun b q=>?_,hd⟩
  cases q
  obtain ⟨ob,_,_,h1,h2,_⟩:=dd
  exact ⟨ob,h1,h2.2.1⟩
section
variable {X:Cx} {pins:List (Addr×Obj)} {σ:St} {H:Hp} {s:Shared} {a:Addr} {y d:V} {u r:Value} {o:Option V} {A:Around} {E:Value→Shared→Prop}
end
def tDPop1(td ty:TE):TE:=fun σ H Q=>td σ H fun x H1=>∃ a,x= .ref a∧IsD H1 a∧ty σ H1 fun y H2=>∃ kvs k v,H2 a=some (.dK kvs)∧y=kV k∧valV kvs k=some v∧Q v (upd H2 a (.dK (dropK kvs k)))
section
variable {X:Cx} {o e f:Expr} {apos cpos:Pos} {td ty tx:TE}
theorem pe_dpop1(ho:PE X o td)(he:PE X e ty)(m:M1 X o "pop" apos e cpos):PE X (.Call (.Attribute o "pop" apos) [e] [] cpos) (tDPop1 td ty):=by
 intro pins s σ H Q I h
 refine wpAny_Call_method m.base m.few m.line PySem.F.plainAttrs_dict PySem.F.slot_dict_pop PySem.F.type_dict_pop (thn (ho pins s σ H _ I h) fun u s1 ⟨x,H1,I1,rx,a,ex,d,q1⟩=>?_)
 subst ex
 obtain rfl:u=Value.ref a:=rx
 obtain ⟨t1,t2,_⟩:=isD_at I1 d
 refine ⟨t1,t2,?_⟩
 rw [m.trees]
 refine Calls.callWith_builtin rfl (Calls.evalArgs_plain (Calls.spliced_cons (thn (he pins s1 σ H1 _ I1 q1) fun iv s2 ⟨y,H2,I2,ry,kvs,k,v,ea,ey,l,q2⟩=>Calls.spliced_nil ?_)))
 subst ey
 exact d_pop I2 ea ry l (.inl rfl) fun w' s3 I3 rw'=>⟨v,_,I3,rw',q2⟩
end
section
variable {X:Cx} {pins:List (Addr×Obj)} {σ:St} {H:Hp} {s:Shared} {a:Addr} {kvs:List (Key×V)} {A:Around} {E:Value→Shared→Prop}
theorem d_copyOf{Q:Value→Shared→Prop}(I:Inv X pins σ H s)(e:Rd H a (.dK kvs))(h:∀ p s',H p=none→Inv X pins σ (upd H p (.dK kvs)) s'→Q (.ref p) s'):wpAny (model X.prog X.w) A (call (.type "dict") [.ref a]) Q E s:=by
 obtain ⟨z,hd,vs,rel,dd⟩:=dk_rd I.hok e
 refine kt_call_dict hd dd (by rw [← rel.length];exact z) fun h' dd' hs=>?_
 refine h _ _ (I.hok.fresh (Nat.le_refl _)) (I.laid (a:=s.heap.objs.size) (o:=.dK kvs) (t':=s.toks) (fun b q hq=>?_) (Nat.le_refl _) (dk_new z (beq_eq_false_iff_ne.mpr (Ne.symm (Nat.ne_of_lt I.big))) rel dd'))
 exact (hs.2 b (Nat.ne_of_lt (Heap.lt_size hq))).trans (Heap.get?_push_of_some _ hq)
end
section
variable {X:Cx} {pins:List (Addr×Obj)} {σ:St} {H:Hp} {s:Shared} {a:Addr} {y:V} {u:Value} {A:Around} {E:Value→Shared→Prop}
end
end L2
namespace Att
open PySem PySem.W PySem.Calls PyProof.Rows
theorem ints_of_wellAll{P:Params}{h:Heap}:∀ (ns:List Int) (vs:List Value),WellAll P h vs (ns.map WData.int)→IntsAre vs ns:=by
 intro ns
 induction ns with
 | nil=>
  intro vs w
  rw [List.map_nil] at w
  cases w
  exact .nil
 | cons n ns ih=>
  intro vs w
  rw [List.map_cons] at w
  cases w with
  | cons a b=>
   cases a
   exact .cons _ _ (ih _ b)
theorem script_of{l:OpenLaw}{n:Nat}(hn:l.most=some n){P:Params}{h:Heap}{args:List WData}{vals:List Value}
  (hpre:l.row.toRowW.claim.pre args=true) (hwl:WellAll P h vals args):
  ∃ a vs ns,vals= [Value.ref a]∧args= [WData.list (ns.map WData.int)]∧h.get? a=some { cls:=.type "list",data:=.seq vs.toArray }∧IntsAre vs ns∧ns.length≤n:=by
 have hsh:WShape.hasAll [] args [.list .int]=true:=(pre_splitW hpre).1
 have hc:l.pre.holds [] { args:=args }=true:=(pre_splitW hpre).2
 obtain ⟨d,r,rfl,h1,h2⟩:=hasAllW_cons hsh
 obtain rfl:=hasAllW_nil h2
 obtain ⟨xs,rfl,h3⟩:=hasW_list h1
 obtain ⟨ns,rfl⟩:=items_int h3
 have hlen:ns.length≤n:=by
  unfold OpenLaw.pre at hc
  have h4:(WTm.not (.lt (.lit (.int (n:Int))) (.len (.arg 0)))).holds [] { args:= [.list (ns.map .int)] }=true:=by
   have h4:=(holds_andW hc).1
   rw [hn] at h4
   exact h4
  have h5:=condW_of h4 (w_not (w_lt w_lit (w_len_list (w_arg rfl))))
  rw [List.length_map] at h5
  refine Nat.le_of_not_lt fun q=>?_
  have q':(n:Int)<((ns.length:Nat):Int):=by omega
  first
   | (rw [decide_eq_true q'] at h5;exact absurd h5 (by decide))
   | (simp at h5;omega)
 cases hwl with
 | cons w1 w2=>
  cases w2
  cases w1 with
  | list ho hall=>exact ⟨_,_,ns,rfl,rfl,ho,ints_of_wellAll ns _ hall,hlen⟩
theorem post_true(l:OpenLaw)(args:List WData):l.row.toRowW.claim.post args (.bool true) args=true:=
 postW_of (r:=l.row.toRowW) (X:=(true==true))
  (show WShape.has [] (.bool true) .bool=true by first | rfl | decide | simp [WShape.has,WShape.arms,WShape.armsAll])
  (show (WTm.eq .res (.lit (.bool true))).value [] { args:=args,res:=some (.bool true),after:=args }=some (.bool (true==true)) from w_eq_bool (w_res rfl) w_lit) rfl
theorem attach_call{l:OpenLaw}{n:Nat}{q:Program}{loose:List Str}{XP:(Str→Option Value)→Heap→Prop}{YP:World→Heap→Prop}{d:DefRec}
  (hn:l.most=some n) (hdf:d.params.defaults= [])
  (call:∀ (w:World) (s₀ s₁:Shared) (mg mb:Str→Option Value) (fa:Addr) (o:Obj) (pm cd doc:Value) (a:Addr) (vs:List Value) (ns:List Int),
   Ground q loose [] XP w s₀ mg mb s₁.heap→YP w s₁.heap→
   s₁.heap.get? fa=some o→o.data= .func (docDef d.name d.params d.body d.scope pm cd doc)→s₁.heap.CodeRec cd d.name→mg d.name=some (.ref fa)→
   s₁.heap.get? a=some { cls:=.type "list",data:=.seq vs.toArray }→IntsAre vs ns→ns.length≤n→s₁.gens= #[]→
   codeAny (model l.prog w) callerA (.call (.ref fa) ⟨[.ref a],[]⟩) (fun r s'=>r= .ok (.ret (.bool true))∧OldK s₁.heap s'.heap∧s'.os=s₁.os∧AllBare s'.gens) s₁):
  WalkO q loose XP YP l.row.toRowW d [] (fun f vs=>PySem.call f vs):=by
 intro w s₀ s₁ mg mb G Y fa o pm cd doc dV kV ho hd hcd hD hmg hg args vals as hpre hlay hrd hwl hlo
 obtain rfl:dV= .none:=Dflts.none hD hdf
 obtain rfl:kV= .none:=Dflts.noKw hD
 obtain ⟨a,vs,ns,rfl,rfl,hobj,hints,hlen⟩:=script_of hn hpre hwl
 refine enter_call (codeAny_mono (call w s₀ s₁ mg mb fa o pm cd doc a vs ns G Y ho (fd_plain hd) hcd hmg hobj hints hlen hg) fun r s' hq=>?_)
 obtain ⟨rfl,h2,h3,h4⟩:=hq
 exact ⟨.inl ⟨.bool true,.bool true,[],rfl,fun _=>rfl,.bool true,post_true l _,fun _=>⟨List.Pairwise.nil,fun _ hm=>(nomatch hm)⟩⟩,h2,h3,h4⟩
section
variable {prog:Program} {w:World} {A:Around} {E:Value→Shared→Prop} {s:Shared} {K:Frag}
def ledger(h:Heap)(L d:Addr):List (Addr×Obj):=(List.range h.objs.size).filterMap fun a=>if a=L∨a=d then none else (h.get? a).map fun o=>(a,o)
end
end Att
namespace L2
open PySem PySem.Spec PyProof.Rows
theorem vals_ints:∀ {vs:List Value} {ns:List Int},IntsAre vs ns→Vals (ns.map V.int) vs
 | _,_,.nil=>.nil
 | _,_,.cons n t h=>.cons ⟨t,rfl⟩ (vals_ints h)
def Only(H:Hp):Prop:=∀ b,H b=none∨∃ o xs,H b=some (.frz o (.lst xs))
theorem law_call{P:Program}{w:World}{K:PySem.W.Frag}{mg mb:Str→Option Value}{CX:CXT}{k:Nat}{fa a:Addr}{fd:FuncData}{x:Str}{sp:Sp}{s₁:Shared}{vs:List Value}{ns:List Int}
  (KX:K.In s₁.heap) (hns:s₁.heap.Ns mainGlobals mg) (hb:s₁.heap.Ns builtinsNs mb) (hbb:∀ x:Str,x≠"__name__"→mb x=bootBuiltins x) (hlim:s₁.heap.NoLimit) (hg:s₁.gens= #[])
  (ha:s₁.heap.get? a=some { cls:=.type "list",data:=.seq vs.toArray }) (hi:IntsAre vs ns) (hl:ns.length≤sizeLine) (hr:Room k callerA)
  (F:∀ base:Heap,K.In base→base.Ns mainGlobals mg→FnOk P w K mg base CX k fa fd [x] sp) (hbind:∀ (s:Shared) (u:Value),BindsTo s fd ⟨[u],[]⟩ [(x,u)])
  (hsp:∀ H:Hp,Only H→SqL K H a (ns.map V.int)→sp [.ref a] H (fun v _=>v= .bl true) fun _ _ _=>False)
  (hCX:∀ H e s',CX [] H s₁ (fun _ _ _=>False) e s'→False):
  codeAny (model P w) callerA (.call (.ref fa) ⟨[.ref a],[]⟩) (fun r s'=>r= .ok (.ret (.bool true))∧OldK s₁.heap s'.heap∧s'.os=s₁.os∧AllBare s'.gens) s₁:=by
 have rv:=vals_ints hi
 have lenV:=hi.length
 have core:∀ H:Hp,Only H→SqL K H a (ns.map V.int)→HOk P w H s₁.heap→(∀ b,H b≠none→b=a)→(H a≠none→K.lookup a=none)→
   codeAny (model P w) callerA (.call (.ref fa) ⟨[.ref a],[]⟩) (fun r s'=>r= .ok (.ret (.bool true))∧OldK s₁.heap s'.heap∧s'.os=s₁.os∧AllBare s'.gens) s₁:=by
  intro H hO hS hok hA hK
  have base_of:∀ {b:Addr} {o:Obj},s₁.heap.get? b=some o→H b=none→(hidT s₁.heap H).get? b=some o:=fun e n=>hidT_get e n
  have noA:∀ {b:Addr} {o:Obj} {es:Array DictEntry} {ep:Nat},s₁.heap.get? b=some o→o.data= .dict es ep→H b=none:=fun {b o es ep} e d=>by
   cases q:H b with
   | none=>rfl
   | some u=>
    have e':b=a:=hA b (by rw [q];simp)
    subst e'
    rw [ha] at e;cases e
    have d':Data.seq vs.toArray _=Data.dict es ep:=d
    cases d'
  have nsK:∀ {b:Addr} {m:Str→Option Value},s₁.heap.Ns b m→(hidT s₁.heap H).Ns b m:=fun {b m} ⟨o,es,ep,e,d,r⟩=>⟨o,es,ep,base_of e (noA e d),d,r⟩
  have hKb:K.In (hidT s₁.heap H):=fun b o e=>base_of (KX b o e) (by
   cases q:H b with
   | none=>rfl
   | some u=>
    have e':b=a:=hA b (by rw [q];simp)
    subst e'
    rw [hK (by rw [q];simp)] at e;cases e)
  have hM:Mod K mg (hidT s₁.heap H):=⟨hKb,nsK hns,⟨mb,nsK hb,hbb⟩,let ⟨mc,h1,h2⟩:=hlim;⟨mc,nsK h1,h2⟩⟩
  have e0:Env0 P w K mg (hidT s₁.heap H) callerA [] s₁ H:=⟨rfl,hM,fun b o e=>of_hidT e,Nat.le_of_eq (hidT_size _ _),trivial,fun b hb=>absurd (show b∈([]:List Addr) from hb) (by simp),hok,.of_eq hg⟩
  refine codeAny_mono ((F _ hKb (nsK hns)).run callerA [] s₁ H ⟨[.ref a],[]⟩ [.ref a] [.ref a] _ _ hr e0 (hbind s₁ (.ref a)) (.cons rfl .nil) (hsp H hO hS)) fun r s' h=>?_
  cases r with
  | error e=>exact (hCX H e s' h).elim
  | ok fl=>
   cases fl with
   | next=>exact False.elim h
   | brk=>exact False.elim h
   | cont=>exact False.elim h
   | ret u=>
    obtain ⟨v,H',os,bare,un,hok',r',q⟩:=h
    have q':v= .bl true:=q
    subst q'
    obtain rfl:u=Value.bool true:=r'
    refine ⟨rfl,OldK.of_keep fun b o e=>?_,os,bare⟩
    cases q:H b with
    | none=>exact un.keep b o e q (by intro z;exact absurd (show b∈([]:List Addr) from z) (by simp)) (by simp)
    | some u=>
     rcases hO b with z | ⟨ob,xs,z⟩
     ·rw [q] at z;cases z
     ·have z2:=un.frzs b ob _ z
      obtain ⟨e1,_⟩:=hok b _ z
      obtain ⟨e2,_⟩:=hok' b _ z2
      rw [e] at e1;cases e1
      exact e2
 cases hk:K.lookup a with
 | some o=>
  have e:=KX a o hk
  rw [ha] at e
  cases e
  refine core (fun _=>none) (fun _=>.inl rfl) (.inr ⟨_,vs.toArray,_,hk,rfl,rfl,rfl,by rw [List.size_toArray,lenV];exact hl,by simpa using rv⟩) (fun b u z=>by have z':(none:Option HO)=some u:=z;cases z') (fun b z=>absurd rfl z) fun z=>absurd rfl z
 | none=>
  refine core (fun b=>if b=a then some (.frz { cls:=.type "list",data:=.seq vs.toArray } (.lst (ns.map V.int))) else none) (fun b=>?_) (.inl (.inr ⟨{ cls:=.type "list",data:=.seq vs.toArray },if_pos rfl⟩)) (fun b u z=>?_) (fun b z=>?_) fun _=>hk
  ·by_cases hb:b=a
   ·exact .inr ⟨_,_,if_pos hb⟩
   ·exact .inl (if_neg hb)
  ·by_cases hb:b=a
   ·have z':=(if_pos hb).symm.trans z
    cases z'
    subst hb
    exact ⟨ha,by rw [List.length_map];exact hl,vs,_,rv,ha⟩
   ·have z':=(if_neg hb).symm.trans z
    cases z'
  ·by_cases hb:b=a
   ·exact hb
   ·exact absurd (if_neg hb) z
end L2
namespace L2
open PySem PySem.Spec PyProof.Rows
abbrev KOf{K:PySem.W.Frag}{h:Heap}(_:K.In h):PySem.W.Frag:=K
theorem walk_of{l:PySem.W.OpenLaw}{n k:Nat}{q:Program}{loose:List Str}{XP:(Str→Option Value)→Heap→Prop}{YP:World→Heap→Prop}{d:DefRec}{K:Params→PySem.W.Frag}{CX:World→CXT}{sp:World→Sp}{x:Str}
  (hn:l.most=some n) (hn2:n≤sizeLine) (hdf:d.params.defaults= []) (hr:Room k callerA)
  (hY:∀ (w:World) (h:Heap),YP w h→(K w.params).In h)
  (F:∀ (w:World) (mg:Str→Option Value) (fa:Addr) (h:Heap),(K w.params).In h→h.Ns mainGlobals mg→mg d.name=some (.ref fa)→
   ∃ fd:FuncData,(∀ (s:Shared) (u:Value),BindsTo s fd ⟨[u],[]⟩ [(x,u)])∧
    ∀ base:Heap,(K w.params).In base→base.Ns mainGlobals mg→FnOk l.prog w (K w.params) mg base (CX w) k fa fd [x] (sp w))
  (hsp:∀ (w:World) (H:Hp) (a:Addr) (ns:List Int),ns.length≤n→Only H→SqL (K w.params) H a (ns.map V.int)→sp w [.ref a] H (fun v _=>v= .bl true) fun _ _ _=>False)
  (hCX:∀ (w:World) (H:Hp) (s:Shared) (e:Value) (s':Shared),CX w [] H s (fun _ _ _=>False) e s'→False):
  PySem.W.WalkO q loose XP YP l.row.toRowW d [] (fun f vs=>PySem.call f vs):=by
 refine Att.attach_call hn hdf fun w s₀ s₁ mg mb fa o pm cd doc a vs ns G Y ho hd hcd hmg hobj hints hlen hg=>?_
 have KX:=hY w _ Y
 obtain ⟨fd,hb,hF⟩:=F w mg fa _ KX G.T.g hmg
 exact law_call KX G.T.g G.T.b G.T.builtins G.T.nolimit hg hobj hints (Nat.le_trans hlen hn2) hr hF hb (fun H hO hS=>hsp w H a ns hlen hO hS) fun H e s'=>hCX w H s₁ e s'
end L2
namespace L2
open PySem PySem.Spec PyProof.Rows
def defArgs(s:Stmt):Arguments:=match s with
 | .FunctionDef _ a _ _ _ _ _ _ _ _=>a
 | _=> { posonlyargs:= [],args:= [],vararg:=none,kwonlyargs:= [],kw_defaults:= [],kwarg:=none,defaults:= [] }
def defBody(s:Stmt):List Stmt:=match s with
 | .FunctionDef _ _ b _ _ _ _ _ _ _=>b
 | _=> []
def defScope(s:Stmt):Scope:=match s with
 | .FunctionDef _ _ _ _ _ _ sc _ _ _=>sc
 | _=> { kind:=.function,names:= [],isGenerator:=false,isCoroutine:=false }
abbrev CX0:CXT:=fun _ _ _ _ _ _=>False
abbrev E0:XK:=fun _ _ _=>False
theorem pass0{X:Cx}:Passes CX0 X E0:=fun _ _ _ _ _ _ _ h=>h.elim
structure Fun(K:PySem.W.Frag)(x qual:Str)(st:Stmt)(f:Addr)(fd:FuncData):Prop where
 ex:∃ (oc:Value) (od:Option Addr) (kV doc pm:Value) (an:Option Addr) (cdv ct:Value) (osl:Array (Option Value)),
  fd=PySem.W.fnOf x qual (defArgs st) (defBody st) (defScope st) .none kV doc pm an cdv ct∧K.lookup f=some ⟨oc,od,.func fd,osl⟩∧PySem.W.codeIn K cdv qual=true
 kp:PySem.W.keepIn K (.ref f)=true
section
variable {P:Program} {w:World} {K:PySem.W.Frag} {mg:Str→Option Value} {base:Heap}
theorem Fun.ok{x qual:Str}{st:Stmt}{f:Addr}{fd:FuncData}{N ps:List Str}{k:Nat}{sp:Sp}(F:Fun K x qual st f fd)(S:FnScope N ps (defScope st))(len:∀ vs H Q E,sp vs H Q E→vs.length=ps.length)
  (hbody:∀ (cdv:Value) (A:Around) (outer:List Env) (s:Shared) (H:Hp) (vs:List V) (Q:VK) (E:XK),Room k (A.deeper (envOfC qual (defScope st) s.heap.objs.size f cdv))→sp vs H Q E→
   ∃ t,PSs (cxOf CX0 P w K mg base N qual (defScope st) f cdv A outer s H E).nox (defBody st) t∧t { nx:=fun _ H'=>Q .non H',rt:=Q } (start N vs) H):FnOk P w K mg base CX0 (k+1) f fd ps sp:=by
 obtain ⟨oc,od,kV,doc,pm,an,cdv,ct,osl,rfl,lk,hcd⟩:=F.ex
 refine fn_of lk hcd S len fun A outer s H vs Q E hr hsp=>?_
 obtain ⟨t,h,q⟩:=hbody cdv A outer s H vs Q E hr hsp
 exact ⟨t,h.nox,q⟩
theorem Fun.binds{x qual:Str}{st:Stmt}{f:Addr}{fd:FuncData}{ps:List Str}(F:Fun K x qual st f fd)
  (h:∀ (kV doc pm:Value) (an:Option Addr) (cdv ct:Value) (us:List Value),us.length=ps.length→bindArgs (PySem.W.fnOf x qual (defArgs st) (defBody st) (defScope st) .none kV doc pm an cdv ct) ⟨us,[]⟩=pure (ps.zip us)):Binds K fd ps []:=by
 obtain ⟨oc,od,kV,doc,pm,an,cdv,ct,osl,rfl,lk,hcd⟩:=F.ex
 exact .all (h kV doc pm an cdv ct)
theorem fun_mk{x qual:Str}{st:Stmt}{f:Addr}{oc:Value}{od an:Option Addr}{osl:Array (Option Value)}{kV doc pm cdv ct:Value}(l:K.lookup f=some ⟨oc,od,.func (PySem.W.fnOf x qual (defArgs st) (defBody st) (defScope st) .none kV doc pm an cdv ct),osl⟩)
  (c:PySem.W.codeIn K cdv qual=true) (k:PySem.W.keepIn K (.ref f)=true):Fun K x qual st f (PySem.W.fnOf x qual (defArgs st) (defBody st) (defScope st) .none kV doc pm an cdv ct):=⟨⟨oc,od,kV,doc,pm,an,cdv,ct,osl,rfl,l,c⟩,k⟩
end
section
variable {X:Cx}
theorem pv(i:Nat){x:Str}{pos:Pos}(hN:X.N[i]? =some x:=by rfl)(hv:Vis X.env.scope x:=by first | exact Or.inl rfl | exact Or.inr (Or.inl rfl) | exact Or.inr (Or.inr rfl))(hd:(x==("__debug__":Str))=false:=by decide)
  (hcd:(x==("__classdict__":Str))=false:=by decide):PE X (.Name x pos) (tVar i):=pe_var hN hv hd hcd
end
theorem iteF{A B:Prop}(h:B):if false=true then A else B:=by
 rw [if_neg Bool.false_ne_true]
 exact h
theorem iteT{A B:Prop}(h:A):if true=true then A else B:=by
 rw [if_pos rfl]
 exact h
def Same(H H':Hp):Prop:=∀ b o,H b=some o→H' b=some o
theorem Same.refl(H:Hp):Same H H:=fun _ _ h=>h
theorem Same.trans{H H1 H2:Hp}(a:Same H H1)(b:Same H1 H2):Same H H2:=fun c o h=>b c o (a c o h)
theorem Same.free{H H':Hp}(e:Same H H'){l:Addr}(h:H' l=Option.none):H l=Option.none:=by
 cases q:H l with
 | none=>rfl
 | some o=>
  rw [e l o q] at h
  cases h
theorem Same.seq{K:PySem.W.Frag}{H H':Hp}{a:Addr}{xs:List V}(e:Same H H')(h:SqL K H a xs):SqL K H' a xs:=by
 rcases h with (h | ⟨o,h⟩) | h
 ·exact .inl (.inl (e _ _ h))
 ·exact .inl (.inr ⟨o,e _ _ h⟩)
 ·exact .inr h
section
variable {κ:Type} [DecidableEq κ]
end
end L2
set_option maxHeartbeats 4000000
namespace L2
open PySem PySem.Spec PyProof.Rows
def Its(x:Str):It:=⟨fun i _=>i<x.cps.size,fun i H v H'=>H'=H∧∃ c,x.cps[i]? =some c∧v= .str ⟨#[c]⟩,fun i _=>i=x.cps.size⟩
theorem turn_str{P:Program}{w:World}{K:PySem.W.Frag}{tg:Expr}{ty:String}(it:Addr)(x:Str)(t:Tok)
  (W:∀ A:Around,A.handled=none→Walks P w A it [it] [it] x.cps.size (SignAt x) (fun i h=>h.IsStrIter it ty x t i))
  (hself:∀ (A:Around) (i:Nat) (s:Shared) (Q:Value→Shared→Prop) (E:Value→Shared→Prop),s.heap.IsStrIter it ty x t i→Q (.ref it) s→wpAny (model P w) A (pyIter (.ref it)) Q E s)
  (hty: ["enumerate","zip","dict_itemiterator","dict_reverseitemiterator","odict_iterator","itertools.zip_longest","itertools.pairwise"].contains ty=false):
  Turn P w K tg (Its x) [it] it (fun i h=>h.IsStrIter it ty x t i) where
 mem:=by simp
 obj:=fun i h st b hb=>by
  have e:b=it:=by simpa using hb
  subst e
  obtain ⟨o,e,c,d⟩:=st
  exact ⟨o,e,fun v z=>by rw [d] at z;cases z⟩
 keep:=fun i h h' st k=>by
  obtain ⟨o,e,r⟩:=st
  exact ⟨o,k it (by simp) o e,r⟩
 item:=by
  intro X hP hw hK hc i pins s σ H E I hf st hg
  subst hP hw hK
  obtain ⟨f0,f1,f2,f3,f4,f5⟩:=hf it (by simp)
  refine (W X.A (I.ok.hd hc)).item i s _ _ hg st fun v h' tk hv st' kk=>?_
  obtain ⟨c,u,hcx,rfl⟩:=hv
  have I1:Inv X pins σ H { s with heap:=h',toks:=tk }:=I.turned (fun b o hb e=>kk b o (by simpa using hb) e) f0 f1 f3 f4 f5
  obtain ⟨o,e,cc,d⟩:=id st'
  exact ⟨_,rfl,go_of (s:= { s with heap:=h',toks:=tk }) e cc d hty ⟨.str ⟨#[c]⟩,H,I1,⟨u,rfl⟩,⟨rfl,c,hcx,rfl⟩,st',fun b hb=>(hf b hb).1⟩⟩
 done:=by
  intro X hP hw hK hc i pins s σ H E I hf st hg
  subst hP hw hK
  obtain ⟨f0,f1,f2,f3,f4,f5⟩:=hf it (by simp)
  have hg':i=x.cps.size:=hg
  subst hg'
  exact (W X.A (I.ok.hd hc)).done s _ _ st fun h' tk kk=>⟨rfl,I.turned (fun b o hb e=>kk b o (by simpa using hb) e) f0 f1 f3 f4 f5⟩
 self:=hself
section
variable {X:Cx} {tg:Expr}
def iStr(ts:TE):TI:=fun σ H R=>ts σ H fun v H1=>∃ x,v= .str x∧R (Its x) H1
theorem pi_str{l:Expr}{tl:TE}(hl:PE X l tl):PI X tg l (iStr tl):=by
 intro pins s σ H R I h
 refine thn (hl pins s σ H _ I h) fun v s1 ⟨x,H1,I1,r1,q1⟩=>?_
 obtain ⟨z,e,q⟩:=q1
 subst e
 obtain ⟨t,rfl⟩:=r1
 cases ha:z.cps.all (· <128)
 ·refine wpAny_pyIter_wide ha ?_
  refine ⟨s1.heap.objs.size,[s1.heap.objs.size],_,_,H1,rfl,I1.kept (t':=s1.toks) fun b o e=>Heap.get?_push_of_some _ e,turn_str _ z t (fun A hA=>Walks.strWide hA _ z t) (fun _ _ _ _ _ st h=>wpAny_pyIter_striter_wide st h) (by decide),⟨_,Heap.get?_push_size _ rfl,rfl,rfl⟩,fun b hb=>?_,q⟩
  have e:b=s1.heap.objs.size:=by simpa using hb
  subst e
  exact I1.fpOk (Nat.le_refl _) (I1.hok.fresh (Nat.le_refl _))
 ·refine wpAny_pyIter_ascii ha ?_
  refine ⟨s1.heap.objs.size,[s1.heap.objs.size],_,_,H1,rfl,I1.kept (t':=s1.toks) fun b o e=>Heap.get?_push_of_some _ e,turn_str _ z t (fun A hA=>Walks.strAscii hA _ z t) (fun _ _ _ _ _ st h=>wpAny_pyIter_striter_ascii st h) (by decide),⟨_,Heap.get?_push_size _ rfl,rfl,rfl⟩,fun b hb=>?_,q⟩
  have e:b=s1.heap.objs.size:=by simpa using hb
  subst e
  exact I1.fpOk (Nat.le_refl _) (I1.hok.fresh (Nat.le_refl _))
end
def closL(cells:List (Str×Addr)):List (Str×NameKind)→List (Str×Addr)→List (Str×Addr)
 | [],cs=>cs
 | (n,k)::r,cs=>closL cells r (if k==.free then (match cells.lookup n with | some a=>(n,a)::cs | none=>cs) else cs)
theorem closureFor_eq{scope:Scope}{env:Env}(h:∀ n,(n,NameKind.free)∈scope.names→∃ c,env.cells.lookup n=some c):closureFor scope env=pure (closL env.cells scope.names []):=by
 unfold closureFor
 have go:∀ (l:List (Str×NameKind)) (cs:List (Str×Addr)),(∀ n,(n,NameKind.free)∈l→∃ c,env.cells.lookup n=some c)→
   (forIn l cs fun x r=>if (x.2==NameKind.free)=true then do let a ← cellOf env x.1;pure (ForInStep.yield ((x.1,a)::r)) else pure (ForInStep.yield r):Sem (List (Str×Addr)))=pure (closL env.cells l cs):=by
  intro l
  induction l with
  | nil=>intro cs _;rfl
  | cons x r ih=>
   intro cs hl
   obtain ⟨n,k⟩:=x
   rw [List.forIn_cons]
   have hr:∀ n,(n,NameKind.free)∈r→∃ c,env.cells.lookup n=some c:=fun y hy=>hl y (List.mem_cons_of_mem _ hy)
   by_cases hk:k= .free
   ·subst hk
    obtain ⟨c,hc⟩:=hl n List.mem_cons_self
    have e:cellOf env n=pure c:=by unfold cellOf;rw [hc]
    simp only [beq_self_eq_true,if_true,e,pure_bind,closL,hc]
    exact ih _ hr
   ·have hb:(k==NameKind.free)=false:=by simpa using hk
    simp only [hb,Bool.false_eq_true,if_false,pure_bind,closL]
    exact ih _ hr
 have q:=go scope.names [] h
 simp only [bind_pure]
 exact q
theorem closL_mem(cells:List (Str×Addr)):∀ (l:List (Str×NameKind)) (cs:List (Str×Addr)) (p:Str×Addr),p∈closL cells l cs→p∈cs∨(cells.lookup p.1=some p.2∧(p.1,NameKind.free)∈l)
 | [],cs,p,h=>.inl h
 | (n,k)::r,cs,p,h=>by
  unfold closL at h
  rcases closL_mem cells r _ p h with q | ⟨q1,q2⟩
  ·by_cases hk:k= .free
   ·subst hk
    simp only [beq_self_eq_true,if_true] at q
    cases e:cells.lookup n with
    | none=>rw [e] at q;exact .inl q
    | some a=>
     rw [e] at q
     rcases List.mem_cons.mp q with rfl | q
     ·exact .inr ⟨e,List.mem_cons_self⟩
     ·exact .inl q
   ·have hb:(k==NameKind.free)=false:=by simpa using hk
    simp only [hb,Bool.false_eq_true,if_false] at q
    exact .inl q
  ·exact .inr ⟨q1,List.mem_cons_of_mem _ q2⟩
theorem closL_sub(cells:List (Str×Addr)):∀ (l:List (Str×NameKind)) (cs:List (Str×Addr)) (p:Str×Addr),p∈cs→p∈closL cells l cs
 | [],_,_,h=>h
 | (n,k)::r,cs,p,h=>by
  unfold closL
  refine closL_sub cells r _ p ?_
  split
  ·split
   ·exact List.mem_cons_of_mem _ h
   ·exact h
  ·exact h
theorem closL_has(cells:List (Str×Addr)){x:Str}{c:Addr}(hc:cells.lookup x=some c):∀ (l:List (Str×NameKind)) (cs:List (Str×Addr)),(x,NameKind.free)∈l→(x,c)∈closL cells l cs
 | (n,k)::r,cs,h=>by
  unfold closL
  rcases List.mem_cons.mp h with e | h
  ·cases e
   refine closL_sub cells r _ _ ?_
   simp only [beq_self_eq_true,if_true,hc]
   exact List.mem_cons_self
  ·exact closL_has cells hc r _ h
theorem lookup_of_mem{x:Str}{c:Addr}:∀ {l:List (Str×Addr)},(x,c)∈l→∃ c',l.lookup x=some c'
 | (y,d)::r,h=>by
  by_cases e:x=y
  ·subst e;exact ⟨d,by simp [List.lookup_cons]⟩
  ·have hb:(x==y)=false:=by simpa using e
   rw [List.lookup_cons,hb]
   rcases List.mem_cons.mp h with q | q
   ·cases q;exact absurd rfl e
   ·exact lookup_of_mem q
theorem closL_look{cells:List (Str×Addr)}{l:List (Str×NameKind)}{x:Str}{c:Addr}(h:(closL cells l []).lookup x=some c):cells.lookup x=some c∧(x,NameKind.free)∈l:=by
 rcases closL_mem cells l [] (x,c) (PySem.mem_of_lookup h) with q | q
 ·cases q
 ·exact q
theorem closL_of{cells:List (Str×Addr)}{l:List (Str×NameKind)}{x:Str}{c:Addr}(hc:cells.lookup x=some c)(h:(x,NameKind.free)∈l):(closL cells l []).lookup x=some c:=by
 obtain ⟨c',e⟩:=lookup_of_mem (closL_has cells hc l [] h)
 rw [e,← hc,(closL_look e).1]
end L2
namespace L2
open PySem PySem.Spec PyProof.Rows
def PFs(X:Cx)(ifs:List Expr)(t:TT):Prop:=
 ∀ (pins:List (Addr×Obj)) (s:Shared) (σ:St) (H:Hp) (Q:Bool→Hp→Prop),Inv X pins σ H s→t σ H Q→
  wpAny (model X.prog X.w) X.A (forIn ifs true fun c r=>if r=true then do let ok ← isTrue c X.env (eval c X.env);pure (ForInStep.yield ok) else pure (ForInStep.yield r)) (TP X pins σ Q) X.xe s
def tYes:TT:=fun _ H Q=>Q true H
theorem pf_nil{X:Cx}:PFs X [] tYes:=fun _ _ _ H _ I h=>wpAny_tests_nil ⟨H,I,h⟩
def cxComp(X:Cx)(N:List Str)(scope:Scope)(cl:List (Str×Addr))(C:Addr)(ex:List Addr)(s:Shared)(H:Hp):Cx where
 prog:=X.prog
 w:=X.w
 K:=X.K
 mg:=X.mg
 base:=X.base
 A:=X.A
 N:=N
 s₀:=s
 H₀:=H
 env:=compEnvC scope cl C X.env
 outer:=X.stack
 stack:=X.stack
 ex:=ex
 fn:=fun _=>false
 calm:=true
 pn:= []
 xe:=fun _ _=>False
structure CompOk(N:List Str)(psc scope:Scope)(caps:List Nat)(x:Str)(M:List Str):Prop where
 kind:scope.kind= .function
 nocell:∀ y∈scope.names,y.2≠.cell
 names:∀ y∈scope.names,y.2= .local→scope.names.lookup y.1=some .local
 var:scope.names.lookup x=some .local
 free:∀ y∈scope.names,y.2= .free→psc.names.lookup y.1=some .cell∨psc.names.lookup y.1=some .free
 inN:M=x::caps.map fun i=>N.getD i ""
 cap:∀ i∈caps,i<N.length∧scope.names.lookup (N.getD i "")=some .free
 nd:M.Nodup
def compChk(N:List Str)(psc scope:Scope)(caps:List Nat)(x:Str)(M:List Str):Bool:=
 decide (scope.kind= .function)&&decide (∀ y∈scope.names,y.2≠.cell)&&decide (∀ y∈scope.names,y.2= .local→scope.names.lookup y.1=some .local)&&decide (scope.names.lookup x=some .local)
  &&decide (∀ y∈scope.names,y.2= .free→psc.names.lookup y.1=some .cell∨psc.names.lookup y.1=some .free)&&decide (M=x::caps.map fun i=>N.getD i "")
  &&decide (∀ i∈caps,i<N.length∧scope.names.lookup (N.getD i "")=some .free)&&decide M.Nodup
theorem CompOk.of{N:List Str}{psc scope:Scope}{caps:List Nat}{x:Str}{M:List Str}(h:compChk N psc scope caps x M=true):CompOk N psc scope caps x M:=by
 unfold compChk at h
 simp only [Bool.and_eq_true] at h
 obtain ⟨⟨⟨⟨⟨⟨⟨a,b⟩,c⟩,d⟩,e⟩,f⟩,g⟩,i⟩:=h
 exact ⟨of_decide_eq_true a,of_decide_eq_true b,of_decide_eq_true c,of_decide_eq_true d,of_decide_eq_true e,of_decide_eq_true f,of_decide_eq_true g,of_decide_eq_true i⟩
def capS(caps:List Nat)(σ:St):St:=caps.map fun i=>(σ[i]?).getD none
def tComp(caps:List Nat)(wi:TI)(tt:TT)(te:TE):TE:=fun σ H Q=>wi σ H fun J H1=>∃ W:Nat→Nat→List V→Hp→Prop,(∃ m,W 0 m [] H1)∧
 ∀ i m acc H,W i m acc H→(J.stop i H∧∀ D,H D=none→Q (.ref D) (upd H D (.lst acc)))∨
  (J.go i H∧acc.length<sizeLine∧∀ v H',J.yld i H v H'→tt (some v::capS caps σ) H' fun b H2=>if b=true then te (some v::capS caps σ) H2 fun y H3=>∃ m',m'<m∧W (i+1) m' (acc++ [y]) H3 else ∃ m',m'<m∧W (i+1) m' acc H2)
theorem HOk.adopt{P:Program}{w:World}{H:Hp}{h:Heap}{a:Addr}{o:HO}(x:HOk P w H h)(hn:H a=none)(new:ObjOk P w (upd H a o) h a o):HOk P w (upd H a o) h:=fun b u e=>by
 by_cases hb:b=a
 ·subst hb;rw [upd_same] at e;cases e;exact new
 ·rw [upd_ne hb] at e
  exact (x b u e).stay (fun c v _ q=>q) (fun c q=>by rw [upd_ne (ne_of_none q hn)];exact q) fun c xs q=>by rw [upd_ne (ne_of_none q hn)];exact q
theorem relabel_free{env:Env}{x:Str}:∀ {names:List (Str×NameKind)},(∀ y∈names,y.2≠.cell)→∀ {k:NameKind},
  (names.map fun (n,k)=>if (k==NameKind.free&&env.scope.kind==.function&&env.kindOf n==some .cell) then (n,NameKind.cell) else (n,k)).lookup x=some k→k= .cell∨k= .free→(x,NameKind.free)∈names
 | [],_,_,h,_=>by simp at h
 | (n,k0)::r,hn,k,h,hk=>by
  have ih:= @relabel_free env x r (fun y hy=>hn y (List.mem_cons_of_mem _ hy)) k
  rw [List.map_cons] at h
  by_cases hc:(k0==NameKind.free&&env.scope.kind==.function&&env.kindOf n==some .cell)=true
  ·have h2:List.lookup x ((n,NameKind.cell)::r.map fun (n,k)=>if (k==NameKind.free&&env.scope.kind==.function&&env.kindOf n==some .cell) then (n,NameKind.cell) else (n,k))=some k:=by
    have q:=h
    simp only [hc,if_true] at q
    exact q
   have hf:k0= .free:=by
    have z:(k0==NameKind.free)=true:=by
     cases e:(k0==NameKind.free) with
     | true=>rfl
     | false=>rw [e] at hc;simp at hc
    simpa using z
   by_cases e:x=n
   ·subst e;subst hf;exact List.mem_cons_self
   ·have hb:(x==n)=false:=by simpa using e
    rw [List.lookup_cons,hb] at h2
    exact List.mem_cons_of_mem _ (ih h2 hk)
  ·have h2:List.lookup x ((n,k0)::r.map fun (n,k)=>if (k==NameKind.free&&env.scope.kind==.function&&env.kindOf n==some .cell) then (n,NameKind.cell) else (n,k))=some k:=by
    have q:=h
    simp only [hc,if_false] at q
    exact q
   by_cases e:x=n
   ·subst e
    rw [List.lookup_cons,beq_self_eq_true] at h2
    have e2:k0=k:=Option.some.inj h2
    subst e2
    rcases hk with z | z
    ·exact absurd z (hn (x,k0) List.mem_cons_self)
    ·subst z;exact List.mem_cons_self
   ·have hb:(x==n)=false:=by simpa using e
    rw [List.lookup_cons,hb] at h2
    exact List.mem_cons_of_mem _ (ih h2 hk)
theorem relabel_look{env:Env}{x:Str}:∀ {names:List (Str×NameKind)},names.lookup x=some .free→
  (names.map fun (n,k)=>if (k==NameKind.free&&env.scope.kind==.function&&env.kindOf n==some .cell) then (n,NameKind.cell) else (n,k)).lookup x=some .cell∨
  (names.map fun (n,k)=>if (k==NameKind.free&&env.scope.kind==.function&&env.kindOf n==some .cell) then (n,NameKind.cell) else (n,k)).lookup x=some .free
 | [],h=>by simp at h
 | (n,k)::r,h=>by
  have ih:= @relabel_look env x r
  show List.lookup x ((if (k==NameKind.free&&env.scope.kind==.function&&env.kindOf n==some .cell)=true then (n,NameKind.cell) else (n,k))::_)=_∨List.lookup x ((if (k==NameKind.free&&env.scope.kind==.function&&env.kindOf n==some .cell)=true then (n,NameKind.cell) else (n,k))::_)=_
  by_cases hc:(k==NameKind.free&&env.scope.kind==.function&&env.kindOf n==some .cell)=true
  ·rw [if_pos hc]
   cases hx:x==n with
   | true=>left;simp [List.lookup_cons,hx]
   | false=>
    simp only [List.lookup_cons,hx] at h ⊢
    exact ih h
  ·rw [if_neg hc]
   cases hx:x==n with
   | true=>
    simp only [List.lookup_cons,hx] at h
    right;simp [List.lookup_cons,hx,h]
   | false=>
    simp only [List.lookup_cons,hx] at h ⊢
    exact ih h
theorem compLoop_own{prog:Program}{w:World}{A:Around}{R:Result→Shared→Prop}{s:Shared}{elt target iter:Expr}{ifs:List Expr}{scope:Scope}{pos:Pos}{it acc:Value}{env:Env}(I:Nat→Shared→Prop)
  (turn:∀ n s,I n s→wpAny (model prog w) A (pyNext it) (fun r s₁=>match r with
   | none=>R (.ok .next) s₁
   | some v=>wpAny (model prog w) A (letOwnedTupleGo target it v) (fun _ s₂=>wpAny (model prog w) A (assign target env v) (fun _ s₃=>
     wpAny (model prog w) A (forIn ifs true fun c r=>if r=true then do let ok ← isTrue c env (eval c env);pure (ForInStep.yield ok) else pure (ForInStep.yield r)) (fun ok s₄=>
      if ok=true then wpAny (model prog w) A (eval elt env) (fun x s₅=>
       wpAny (model prog w) A (call (.builtin "list.append") [acc,x]) (fun _ s₆=>∃ m,m<n∧I m s₆) (fun _ _=>False) s₅) (fun _ _=>False) s₄
      else ∃ m,m<n∧I m s₄) (fun _ _=>False) s₃) (fun _ _=>False) s₂) (fun _ _=>False) s₁) (fun _ _=>False) s)
  (n:Nat) (h:I n s):
  codeAny (model prog w) A (.compLoop (.ListComp elt [⟨target,iter,ifs,0⟩] scope pos) 0 it acc env) R s:=by
 refine codeAny_loop rfl I (fun n s hI=>?_) n h
 show wpAny _ A ((compTurn (.ListComp elt [⟨target,iter,ifs,0⟩] scope pos) 0 it acc env).onRaise (fun x=>do noteFrame x env;theTreesLotGoes x)) _ _ s
 refine wpAny_noted ?_
 rw [compTurn_list]
 refine wpAny_bind (wpAny_standAt (wpAny_bind (wpAny_mono (turn n s hI) (fun r s₁ h₁=>?_) fun _ _ h'=>h'.elim)))
 cases r with
 | none=>exact wpAny_pure h₁
 | some v=>
  refine wpAny_bind (wpAny_mono h₁ (fun _ s₂ h₂=>wpAny_bind (wpAny_mono h₂ (fun _ s₃ h₃=>wpAny_bind (wpAny_mono h₃ (fun ok s₄ h₄=>?_) fun _ _ h'=>h'.elim)) fun _ _ h'=>h'.elim)) fun _ _ h'=>h'.elim)
  cases ok with
  | false=>exact wpAny_pure ⟨rfl,h₄⟩
  | true=>
   exact wpAny_bind (wpAny_bind (wpAny_mono h₄ (fun x s₅ h₅=>wpAny_bind (wpAny_mono h₅ (fun _ s₆ h₆=>wpAny_pure (wpAny_pure ⟨rfl,h₆⟩)) fun _ _ h'=>h'.elim)) fun _ _ h'=>h'.elim))
section
variable {X:Cx}
theorem Inv.cap{pins:List (Addr×Obj)}{σ:St}{H:Hp}{s:Shared}{i:Nat}{y:Str}{v:V}(I:Inv X pins σ H s)(hy:X.N[i]? =some y)(hv:σ[i]? =some (some v))(hk:X.env.kindOf y=some .cell∨X.env.kindOf y=some .free):
  ∃ u c,RelV v u∧X.env.cells.lookup y=some c∧s.heap.IsCell c (some u):=by
 obtain ⟨m,hn,hl⟩:=I.loc
 obtain ⟨u,r,l⟩:=hl i y v hy hv (by rcases hk with h | h;exact .inr (.inl h);exact .inr (.inr h))
 rcases l with ⟨h1,_⟩ | ⟨_,c,hc,z⟩
 ·rcases hk with h | h<;>(rw [h1] at h;cases h)
 ·exact ⟨u,c,r,hc,z⟩
theorem comp_start{M:List Str}{scope:Scope}{caps:List Nat}{x:Str}{pins:List (Addr×Obj)}{σ:St}{H:Hp}{s s4:Shared}{fp:List Addr}{C:Addr}{m:Str→Option Value}
  (S:CompOk X.N X.env.scope scope caps x M) (hcalm:X.calm=true) (I:Inv X pins σ H s) (hf:∀ b∈fp,FpOk X pins H b) (hfo:∀ b∈fp,∃ o,s.heap.get? b=some o)
  (hC:s.heap.objs.size≤C) (hos:s4.os=s.os) (hg:AllBare s4.gens) (keep:∀ b o,s.heap.get? b=some o→s4.heap.get? b=some o) (hn:s4.heap.Ns C m):
  Inv (cxComp X M scope (closL X.env.cells scope.names []) C fp s H) [] (none::capS caps σ) H s4:=by
 have cell0:∀ y c,(closL X.env.cells scope.names []).lookup y=some c→X.env.cells.lookup y=some c:=fun y c h=>(closL_look h).1
 have fresh:∀ b o,s.heap.get? b=some o→b≠C:=fun b o e z=>by
  subst z
  exact absurd (Nat.lt_of_lt_of_le (Heap.lt_size e) hC) (Nat.lt_irrefl _)
 have ok:(cxComp X M scope (closL X.env.cells scope.names []) C fp s H).Ok:=by
  refine ⟨I.ok.mod,?_,I.ok.glob,I.ok.blt,hC,fun y z c h1 h2=>I.ok.inj y z c (cell0 _ _ h1) (cell0 _ _ h2),fun y hy=>?_,fun y c h _=>Bool.noConfusion h,fun _=>I.ok.hd hcalm,I.ok.frames,.inl rfl,fun b hb=>⟨?_,fun y c h z=>?_⟩,
   I.bs,Nat.le_trans I.ok.bsz I.sz,fun b o e hb=>?_,fun b hb hs=>?_,I.stack,I.stkFree⟩
  ·exact S.kind
  ·have hm:(y,NameKind.free)∈scope.names:=by
    rcases hy with h | h
    ·exact relabel_free S.nocell h (.inl rfl)
    ·exact relabel_free S.nocell h (.inr rfl)
   obtain ⟨c,hc⟩:=I.ok.has y (S.free _ hm rfl)
   exact ⟨c,closL_of hc hm⟩
  ·obtain ⟨o,e⟩:=hfo b hb
   exact fresh b o e
  ·exact (hf b hb).2.2.2.2.1 y c (cell0 y c h) z
  ·rcases (hf b hb).2.2.2.1 with z | z
   ·exact I.ok.noex b o e z
   ·exact absurd (Nat.lt_of_lt_of_le (Heap.lt_size e) (Nat.le_trans I.ok.bsz z)) (Nat.lt_irrefl _)
  ·rcases List.mem_cons.mp (I.stkSub b hs) with z | z
   ·exact (hf b hb).2.1 z
   ·exact (hf b hb).2.2.1 z
 refine ⟨ok,hos,hg,Un.kept keep,⟨m,hn,fun i y v h1 h2 h3=>?_⟩,fun y c h=>?_,I.hok.fresh hC,fun y c h=>I.freeC y c (cell0 y c h),fun p hp=>absurd (show p∈([]:List (Addr×Obj)) from hp) (by simp),I.hok.kept keep,?_⟩
 ·have h1':M[i]? =some y:=h1
  cases i with
  | zero=>simp at h2
  | succ j=>
   rw [S.inN] at h1'
   simp only [List.getElem?_cons_succ,capS,List.getElem?_map] at h1' h2
   cases e:caps[j]? with
   | none=>rw [e] at h1';simp at h1'
   | some k=>
    rw [e] at h1' h2
    simp only [Option.map_some,Option.some.injEq] at h1' h2
    obtain ⟨c1,c2⟩:=S.cap k (List.mem_of_getElem? e)
    rw [h1'] at c2
    have hN:X.N[k]? =some y:=by
     rw [← h1',List.getD_eq_getElem?_getD,List.getElem?_eq_getElem c1];rfl
    have hσ:σ[k]? =some (some v):=by
     cases q:σ[k]? with
     | none=>rw [q] at h2;cases h2
     | some z=>rw [q] at h2;simpa using h2
    obtain ⟨u,c,r,hc,z⟩:=I.cap hN hσ (S.free (y,.free) (PySem.mem_of_lookup c2) rfl)
    obtain ⟨oc,ho,hd⟩:=z
    exact ⟨u,r,.inr ⟨relabel_look c2,c,closL_of hc (PySem.mem_of_lookup c2),oc,keep _ _ ho,hd⟩⟩
 ·obtain ⟨v,oc,ho,hd⟩:=I.cell y c (cell0 y c h)
  exact ⟨v,oc,keep _ _ ho,hd⟩
 ·show _=M.length
  rw [S.inN]
  simp [capS]
theorem comp_done{M:List Str}{scope:Scope}{cl:List (Str×Addr)}{pins pins':List (Addr×Obj)}{σ σ':St}{H H':Hp}{s s':Shared}{fp:List Addr}{C D:Addr}{h'':Heap}{acc:List V}{its:List Value}
  (I:Inv X pins σ H s) (hf:∀ b∈fp,FpOk X pins H b) (I':Inv (cxComp X M scope cl C fp s H) pins' σ' H' s') (hC:s.heap.objs.size≤C) (hD:s.heap.objs.size≤D) (hDC:D≠C) (hDn:H' D=none)
  (hl:s'.heap.PlainList D its.toArray) (rv:Vals acc its) (hz:acc.length≤sizeLine) (sb:Heap.SameBut C s'.heap h''):
  Inv X pins σ (upd H' D (.lst acc)) { s' with heap:=h'' }:=by
 have below:∀ b o,s.heap.get? b=some o→b≠C∧b≠D:=fun b o e=>⟨fun z=>absurd (Nat.lt_of_lt_of_le (Heap.lt_size e) (by rw [z];exact hC)) (Nat.lt_irrefl _),fun z=>absurd (Nat.lt_of_lt_of_le (Heap.lt_size e) (by rw [z];exact hD)) (Nat.lt_irrefl _)⟩
 have hHD:H D=none:=I.hok.fresh hD
 have B:Un (frs X.stack) fp H H' s.heap s'.heap:=I'.base
 have hHC:H' C=none:=I'.free
 obtain ⟨n,el⟩:=hl
 have ok1:HOk X.prog X.w H' h'':=fun b u e=>by
  refine (show ObjOk X.prog X.w H' s'.heap b u from I'.hok b u e).stay (fun c v hc q=>(sb.2 c ?_).trans q) (fun _ q=>q) fun _ _ q=>q
  rcases hc with z | z
  ·rw [z];intro z2;rw [z2,hHC] at e;cases e
  ·intro z2;rw [z2,hHC] at z;cases z
 have ok2:HOk X.prog X.w (upd H' D (.lst acc)) h'':=ok1.adopt hDn ⟨hz,its,n,rv,(sb.2 D hDC).trans el⟩
 have U:Un (frs X.stack) fp H (upd H' D (.lst acc)) s.heap h'':=by
  refine ⟨fun b o q n hb hx=>(sb.2 b (below b o q).1).trans (B.keep b o q n hb hx),fun b o q n hb hx=>?_,fun b o q n hx=>?_,fun b o q hx=>?_,fun b xs q=>?_,fun b o u q=>?_,fun b ps q=>?_⟩
  ·obtain ⟨sl,e⟩:=B.slot b o q n hb hx
   exact ⟨sl,(sb.2 b (below b o q).1).trans e⟩
  ·rw [upd_ne (below b o q).2];exact B.free b o q n hx
  ·obtain ⟨o',e⟩:=B.there b o q hx
   exact ⟨o',(sb.2 b (below b o q).1).trans e⟩
  ·rw [upd_ne (ne_of_none q hHD)];exact B.tups b xs q
  ·rw [upd_ne (ne_of_none q hHD)];exact B.frzs b o u q
  ·rw [upd_ne (ne_of_none q hHD)];exact B.tbls b ps q
 have os:s'.os=s.os:=I'.os
 exact I.call' (s':= { s' with heap:=h'' }) (ch:=fp) os U ok2 I'.bare fun b hb=>⟨(hf b hb).2.2.2.1,(hf b hb).2.1,(hf b hb).2.2.2.2.1,(hf b hb).2.2.2.2.2⟩
theorem pe_comp{elt iter:Expr}{x:Str}{px:Pos}{ifs:List Expr}{scope:Scope}{pos:Pos}{wi:TI}{tt:TT}{te:TE}{M:List Str}(caps:List Nat)(hcalm:X.calm=true)(S:CompOk X.N X.env.scope scope caps x M)
  (hi:PI X (.Name x px) iter wi) (ht:∀ cl C ex s H,PFs (cxComp X M scope cl C ex s H) ifs tt) (he:∀ cl C ex s H,PE (cxComp X M scope cl C ex s H) elt te)
  (hs:∀ y,foldedSetIterable iter X.env y=pure y:=by intro _;rfl):PE X (.ListComp elt [⟨.Name x px,iter,ifs,0⟩] scope pos) (tComp caps wi tt te):=by
 intro pins s σ H Q I h
 rw [eval_ListComp]
 refine wpAny_comprehension_free (use:=none) rfl hs (closureFor_eq fun n hn=>I.ok.has n (S.free _ hn rfl)) S.kind S.names ?_
 refine thn (hi pins s σ H _ I h) fun v s1 h1=>thn h1 fun itv s2 h2=>?_
 obtain ⟨it,fp,tn,J,H2,e,I2,T,st2,f2,W,⟨m0,w0⟩,turn⟩:=h2
 subst e
 refine wpAny_newObj_type (wpAny_newFunctionEnv S.nocell (by intro y hy;simp at hy) (fun h₁ hns₁ hsb₁=>?_) S.kind)
 dsimp only at hns₁ hsb₁ ⊢
 generalize hH2:s2.heap.push { cls:=.type "list",dict:=none,data:=.seq ([]:List Value).toArray }=P2 at hns₁ hsb₁ ⊢
 have hCs:P2.objs.size=s2.heap.objs.size+1:=by rw [← hH2,Heap.size_push]
 have hDC:s2.heap.objs.size≠P2.objs.size:=by rw [hCs];exact Nat.ne_of_lt (Nat.lt_succ_self _)
 have hCle:s2.heap.objs.size≤P2.objs.size:=by rw [hCs];exact Nat.le_succ _
 have below:∀ b,b<s2.heap.objs.size→b≠P2.objs.size:=fun b hb=>by rw [hCs];exact Nat.ne_of_lt (Nat.lt_succ_of_lt hb)
 have old:∀ b o,s2.heap.get? b=some o→h₁.get? b=some o:=fun b o e=>hsb₁.extBut b o (below b (Heap.lt_size e)) (Heap.get?_push_of_some _ (hH2▸Heap.get?_push_of_some _ e))
 have hacc:h₁.PlainList s2.heap.objs.size #[]:=⟨_,hsb₁.extBut _ _ hDC (Heap.get?_push_of_some _ (hH2▸Heap.get?_push_size _ rfl))⟩
 have fob:∀ b∈fp,∃ o,s2.heap.get? b=some o∧∀ v,o.data≠.cell v:=T.obj 0 _ st2
 have dnf:s2.heap.objs.size∉fp:=fun hb=>by
  obtain ⟨o,e,_⟩:=fob _ hb
  exact absurd (Heap.lt_size e) (Nat.lt_irrefl _)
 have hDs:∀ {c:Addr} {o:Obj},s2.heap.get? c=some o→c≠s2.heap.objs.size:=fun e=>Nat.ne_of_lt (Heap.lt_size e)
 let Y:Cx:=cxComp X M scope (closL X.env.cells scope.names []) P2.objs.size fp s2 H2
 have I4:Inv Y [] (none::capS caps σ) H2 { s2 with heap:=h₁,toks:=s2.toks+([]:List (Str×Value)).length }:=
  comp_start S hcalm I2 f2 (fun b hb=>let ⟨o,e,_⟩:=fob b hb;⟨o,e⟩) hCle rfl I2.bare old hns₁
 have fpY:∀ {pins':List (Addr×Obj)} {H':Hp},(∀ b∈fp,H' b=none)→(∀ p∈pins',p.1∉fp)→∀ b∈fp,FpOk Y pins' H' b:=fun {pins' H'} hn hp b hb=>by
  obtain ⟨o,e,_⟩:=fob b hb
  refine ⟨hn b hb,below b (Heap.lt_size e),fun hs=>?_,.inl hb,fun y c h=>(f2 b hb).2.2.2.2.1 y c (closL_look h).1,fun p hp' z=>hp p (show p∈pins' from by have q:p∈ []++pins':=hp';simpa using q) (by rw [z];exact hb)⟩
  rcases List.mem_cons.mp (I2.stkSub b hs) with z | z
  ·exact (f2 b hb).2.1 z
  ·exact (f2 b hb).2.2.1 z
 have Dfs:s2.heap.objs.size∉Y.fs:=fun hs=>by
  obtain ⟨_,o,ho,_⟩:=I2.stack.mem hs
  exact absurd (Heap.lt_size ho) (Nat.lt_irrefl _)
 have Dcell:∀ y c,Y.env.cells.lookup y=some c→c≠s2.heap.objs.size:=fun y c h z=>by
  obtain ⟨v,q⟩:=I2.cell y c (closL_look h).1
  rw [z] at q
  exact absurd q.lt (Nat.lt_irrefl _)
 have loop:∀ s₃:Shared,s₃= { s2 with heap:=h₁,toks:=s2.toks+([]:List (Str×Value)).length }→
   codeAny (model X.prog X.w) X.A (.compLoop (.ListComp elt [⟨.Name x px,iter,ifs,0⟩] scope pos) 0 (.ref it) (.ref s2.heap.objs.size) (compEnvC scope (closL X.env.cells scope.names []) P2.objs.size X.env))
    (compPost (model X.prog X.w) X.A X.xe none (EP X pins σ Q) (.ref s2.heap.objs.size) P2.objs.size) s₃:=by
  rintro s₃ rfl
  refine compLoop_own (fun n s'=>∃ i acc H' its,Inv Y [] (none::capS caps σ) H' s'∧tn i s'.heap∧(∀ b∈fp,H' b=none)∧H' s2.heap.objs.size=none∧s'.heap.PlainList s2.heap.objs.size its∧Vals acc its.toList∧acc.length≤sizeLine∧W i n acc H') ?_ m0
   ⟨0,[],H2, #[],I4,T.keep 0 _ _ st2 (fun b hb o e=>old b o e),fun b hb=>(f2 b hb).1,I2.hok.fresh (Nat.le_refl _),hacc,.nil,Nat.zero_le _,w0⟩
  rintro n s5 ⟨i,acc,H5,its,I5,st5,fr5,hD5,hl5,rv5,hz5,w5⟩
  have hdY:Y.calm=true:=rfl
  obtain ⟨nn,el5⟩:=hl5
  have I5':Inv Y [(s2.heap.objs.size,{ cls:=.type "list",data:=.seq its nn })] (none::capS caps σ) H5 s5:=I5.pins_of fun p hp=>by
   have e:p=(s2.heap.objs.size,{ cls:=.type "list",data:=.seq its nn }):=by simpa using hp
   subst e
   exact ⟨el5,hD5,hDC,Dfs,fun v z=>by cases z⟩
  have fp5:∀ {H':Hp},(∀ b∈fp,H' b=none)→∀ b∈fp,FpOk Y [(s2.heap.objs.size,{ cls:=.type "list",data:=.seq its nn })] H' b:=fun hn=>fpY hn fun p hp=>by
   have e:p=(s2.heap.objs.size,{ cls:=.type "list",data:=.seq its nn }):=by simpa using hp
   subst e
   exact dnf
  have rv5':Vals acc its.toList:=rv5
  rcases turn i n acc H5 w5 with ⟨stop,qn⟩ | ⟨go,hlt,step⟩
  ·refine thn (T.done Y rfl rfl rfl hdY i _ s5 _ H5 (fun _ _=>False) I5' (fp5 fr5) st5 stop) fun r s6 ⟨hr,I6⟩=>?_
   subst hr
   obtain ⟨m6,hn6,_⟩:=id I6.loc
   obtain ⟨p1,p2,_⟩:=I6.pin (s2.heap.objs.size,{ cls:=.type "list",data:=.seq its nn }) (by simp)
   refine ⟨m6,hn6,fun h' sb=>⟨.ref s2.heap.objs.size,upd H5 s2.heap.objs.size (.lst acc),?_,rfl,qn _ hD5⟩⟩
   exact comp_done (its:=its.toList) I2 f2 I6 hCle (Nat.le_refl _) hDC hD5 (show s6.heap.PlainList s2.heap.objs.size its.toList.toArray from ⟨nn,by rw [Array.toArray_toList];exact p1⟩) rv5' hz5 sb
  ·refine thn (T.item Y rfl rfl rfl hdY i _ s5 _ H5 (fun _ _=>False) I5' (fp5 fr5) st5 go) fun r s6 ⟨u,hr,h6⟩=>?_
   subst hr
   refine thn h6 fun _ s7 ⟨v7,H7,I7,r7,y7,st7,fr7⟩=>?_
   have I7':=I7.pinned (fp5 fr7) (T.obj _ _ st7)
   have hg:PG Y (.Name x px) (gName 0):=pg_name (X:=Y) (i:=0) S.nd (by show M[0]? =some x;rw [S.inN];rfl) (Or.inl (lookup_relabel_local S.var)) (.inr (lookup_relabel_local S.var))
   refine thn (hg _ s7 _ H7 v7 u (fun σ8 H8=>σ8=some v7::capS caps σ∧H8=H7) I7' r7 ⟨rfl,rfl⟩) fun _ s8 ⟨σ8,H8,I8,e8,e8'⟩=>?_
   subst e8 e8'
   refine thn (ht _ _ _ _ _ _ s8 _ _ _ I8 (step v7 _ y7)) fun b s9 ⟨H9,I9,q9⟩=>?_
   have tail:∀ {σ':St} {H':Hp} {s':Shared},Inv Y ([(s2.heap.objs.size,{ cls:=.type "list",data:=.seq its nn })]++pinsAt fp s7.heap) σ' H' s'→
     tn (i+1) s'.heap∧(∀ b∈fp,H' b=none)∧s'.heap.get? s2.heap.objs.size=some { cls:=.type "list",data:=.seq its nn }∧H' s2.heap.objs.size=none:=fun {σ' H' s'} J=>by
    refine ⟨T.keep _ _ _ st7 fun b hb o e=>(J.pin (b,o) (List.mem_append_right _ (List.mem_append_right _ (mem_pinsAt hb e)))).1,fun b hb=>?_,?_⟩
    ·obtain ⟨o,e,d⟩:=T.obj _ _ st7 b hb
     exact (J.pin (b,o) (List.mem_append_right _ (List.mem_append_right _ (mem_pinsAt hb e)))).2.1
    ·have p:=J.pin (s2.heap.objs.size,{ cls:=.type "list",data:=.seq its nn }) (by simp)
     exact ⟨p.1,p.2.1⟩
   cases b with
   | false=>
    obtain ⟨m',hm,w9⟩:=(show ∃ m',m'<n∧W (i+1) m' acc H9 from by simpa using q9)
    obtain ⟨t1,t2,t3,t4⟩:=tail I9
    refine ⟨m',hm,i+1,acc,H9,its,?_,t1,t2,t4,⟨nn,t3⟩,rv5,hz5,w9⟩
    exact (I9.pins_of (pins':= []) fun p hp=>absurd hp (by simp)).weak (by simp) fun j w z=>by
     cases j with
     | zero=>simp at z
     | succ j=>simpa using z
   | true=>
    have q9':te (some v7::capS caps σ) H9 fun y H3=>∃ m',m'<n∧W (i+1) m' (acc++ [y]) H3:=by simpa using q9
    refine thn (he _ _ _ _ _ _ s9 _ _ _ I9 q9') fun u10 s10 ⟨y,H10,I10,r10,m',hm,w10⟩=>?_
    obtain ⟨t1,t2,t3,t4⟩:=tail I10
    have lz:its.size=acc.length:=by rw [rv5.length];simp
    refine wpAny_list_append_plain ⟨nn,t3⟩ (fun h' hl' sb'=>?_) (by omega)
    have I11:Inv Y [] (some v7::capS caps σ) H10 { s10 with heap:=h',toks:=s10.toks }:=
     (I10.pins_of (pins':= []) fun p hp=>absurd hp (by simp)).turned (it:=s2.heap.objs.size) (fun b o hb e=>(sb'.2 b hb).trans e) t4 hDC (.inr (Nat.le_refl _)) Dcell (fun p hp=>absurd (show p∈([]:List (Addr×Obj)) from hp) (by simp))
    refine ⟨m',hm,i+1,acc++ [y],H10,its.push u10,?_,T.keep _ _ _ t1 (fun b hb o e=>(sb'.2 b (fun z=>dnf (z▸hb))).trans e),t2,t4,hl',?_,?_,w10⟩
    ·exact I11.weak (by simp) fun j w z=>by
      cases j with
      | zero=>simp at z
      | succ j=>simpa using z
    ·rw [Array.toList_push]
     exact rv5.append (.cons r10 .nil)
    ·rw [List.length_append,List.length_singleton];omega
 exact codeAny_compStart_list (loop _ rfl) (T.self X.A 0 _ _ _ (T.keep 0 _ _ st2 (fun b hb o e=>old b o e)) (loop _ rfl))
end
end L2
namespace L2
open PySem PySem.Spec PyProof.Rows
section
variable {X:Cx}
def rSlS:V→Option Int→Option Int→Hp→VK→Prop:=fun x lo hi H Q=>∃ z,x= .str z∧z.length≤sizeLine∧Q (.str (Txt.slice z lo hi)) H
theorem sl_str:SlR X rSlS:=by
 intro pins s σ H x v vl vu lo hi sl Q I rx hs pl pu h
 obtain ⟨z,rfl,hz,q⟩:=h
 obtain ⟨t,rfl⟩:=rx
 refine ⟨"str",_,PySem.F.slot_str_getitem.lookup,typeIs_str _ _ _,?_⟩
 have fin:∀ t' k,EP X pins σ Q (.str (Txt.slice z lo hi) t') { s with toks:=k }:=fun t' k=>⟨.str _,H,I.tok k,⟨t',rfl⟩,q⟩
 obtain ⟨o,e,c,d⟩:=hs
 cases pl with
 | none=>cases pu with
  | none=>exact wpAny_getItem_str_slice (l:=none) (u:=none) (st:=none) ⟨o,e,c,d⟩ rfl (post_val_or_str ⟨Nat.le_trans (Txt.slice_le z _ _) hz,fin⟩)
  | int j u=>exact wpAny_getItem_str_slice (l:=none) (u:=some (j,u)) (st:=none) ⟨o,e,c,d⟩ rfl (post_val_or_str ⟨Nat.le_trans (Txt.slice_le z _ _) hz,fin⟩)
 | int i u1=>cases pu with
  | none=>exact wpAny_getItem_str_slice (l:=some (i,u1)) (u:=none) (st:=none) ⟨o,e,c,d⟩ rfl (post_val_or_str ⟨Nat.le_trans (Txt.slice_le z _ _) hz,fin⟩)
  | int j u=>exact wpAny_getItem_str_slice (l:=some (i,u1)) (u:=some (j,u)) (st:=none) ⟨o,e,c,d⟩ rfl (post_val_or_str ⟨Nat.le_trans (Txt.slice_le z _ _) hz,fin⟩)
theorem strsAre_of:∀ {ys:List Str} {us:List Value},Vals (ys.map V.str) us→StrsAre us ys
 | [],_,.nil=>.nil
 | y::r,_,.cons h t=>by
  obtain ⟨tk,e⟩:=h
  subst e
  exact .cons y tk (strsAre_of t)
def rJoin(K:PySem.W.Frag):V→List V→Hp→VK→Prop:=fun x xs H Q=>∃ sep p ys,x= .str sep∧xs= [.ref p]∧SqL K H p (ys.map V.str)∧(ys.map (·.length)).sum+ys.length * sep.length≤16777216∧Q (.str (Txt.join sep ys)) H
theorem mt_join:MtR X "str.join" (rJoin X.K):=by
 intro pins s σ H x xs v us Q I rx rv h
 obtain ⟨sep,p,ys,rfl,rfl,hp,hz,q⟩:=h
 obtain ⟨t,rfl⟩:=rx
 obtain ⟨u,rfl,ru⟩:=rv.one
 cases ru
 obtain ⟨its,r,pl,_⟩:=I.list hp
 exact join_list pl.isList (by simpa using strsAre_of r) hz fun t' k=>⟨.str _,H,I.tok k,⟨t',rfl⟩,q⟩
def rMulS:R2:=fun x y H Q=>∃ z k,x= .str z∧y= .int k∧MulOk z k∧Q (.str (Txt.mul z k)) H
theorem op_mul_str:OpR X (binaryOp .Mult) rMulS:=by
 intro pins s σ H x y v u Q I rx ry h
 obtain ⟨z,k,rfl,rfl,hk,q⟩:=h
 obtain ⟨t,rfl⟩:=rx
 obtain ⟨t2,rfl⟩:=ry
 exact SB.mul hk fun t' c=>⟨.str _,H,I.tok c,⟨t',rfl⟩,q⟩
end
end L2
namespace L2
open PySem PySem.Spec PyProof.Rows
theorem same_new{H:Hp}{p:Addr}(h:H p=none)(o:HO):Same H (upd H p o):=fun b u q=>by rw [upd_ne (ne_of_none q h)];exact q
theorem Same.upd{H H':Hp}{p:Addr}{o:HO}(e:Same H H')(h:H p=none):Same H (upd H' p o):=fun b u q=>by rw [upd_ne (ne_of_none q h)];exact e b u q
theorem Same.seqT{K:PySem.W.Frag}{H H':Hp}{a:Addr}{xs:List V}(e:Same H H')(h:SqT K H a xs):SqT K H' a xs:=by
 rcases h with (h | ⟨o,h⟩) | h
 ·exact .inl (.inl (e _ _ h))
 ·exact .inl (.inr ⟨o,e _ _ h⟩)
 ·exact .inr h
theorem atI_at{α:Type}{xs:List α}{j:Int}{v:α}(h0:0≤j)(h:xs[j.toNat]? =some v):atI xs j=some v:=by
 obtain ⟨k,rfl⟩:=Int.eq_ofNat_of_zero_le h0
 exact atI_nat (by simpa using h)
theorem b2(k:Bool):(if k=true then (1:Int) else 0)=0∨(if k=true then (1:Int) else 0)=1:=by cases k<;>simp
end L2
namespace L2
open PySem PySem.Spec PyProof.Rows PySem.W
section
variable {X:Cx}
end
end L2
set_option autoImplicit false
namespace L2
open PySem PySem.Spec PyProof.Rows
theorem ObjOk.there{P:Program}{w:World}{H:Hp}{h:Heap}{a:Addr}{o:HO}(x:ObjOk P w H h a o):∃ ob,h.get? a=some ob:=by
 cases o with
 | lst xs=>obtain ⟨_,_,_,_,e⟩:=x;exact ⟨_,e⟩
 | tup xs=>obtain ⟨_,_,_,ob,e,_⟩:=x;exact ⟨_,e⟩
 | dK kvs=>obtain ⟨_,_,_,_,o,_,_,e,_⟩:=x;exact ⟨_,e⟩
 | dT kvs=>obtain ⟨_,_,_,_,o,_,_,e,_⟩:=x;exact ⟨_,e⟩
 | set S n=>obtain ⟨o,_,_,_,e,_⟩:=x;exact ⟨_,e⟩
 | ins C dx fs=>obtain ⟨_,_,_,e,_⟩:=x;exact ⟨_,e⟩
 | own y=>exact x
 | xd fs=>obtain ⟨_,⟨_,_,_,e,_⟩,_⟩:=x;exact ⟨_,e⟩
 | rng lo hi=>obtain ⟨_,_,_,e⟩:=x;exact ⟨_,e⟩
 | frz ob u=>obtain ⟨e,_⟩:=x;exact ⟨_,e⟩
 | tbl ps=>exact ⟨_,show h.get? a=some _ from x⟩
 | met f y=>exact ⟨_,show h.get? a=some _ from x⟩
 | ext φ=>obtain ⟨_,z,_⟩:=x;exact z
def Cov(l:List Env)(h:Heap)(H':Hp)(B:Heap):Prop:=(∀ b o,h.get? b=some o→b∉frs l→∃ o',B.get? b=some o')∧∀ b u,H' b=some u→∃ o',B.get? b=some o'
def CXE(P:Program)(w:World):CXT:=fun outer H s E e s'=>∃ (a:Addr) (cls a0:Value) (B:Heap) (H':Hp),e= .ref a∧s'.os=s.os∧AllBare s'.gens∧Un (frs outer) [] H H' s.heap s'.heap∧HOk P w H' s'.heap∧Heap.FlyingW B outer a cls a0 s'.heap∧Cov outer s.heap H' B∧E cls none H'
theorem Un.then{fs:List Addr}{H0 H:Hp}{h0 h1 h2:Heap}{L:Addr}(u:Un fs [] H0 H h0 h1)(hL:∀ b o,h0.get? b=some o→b≠L)
  (k:∀ b o,h1.get? b=some o→b≠L→b∉fs→h2.get? b=some o) (ks:∀ b o,h1.get? b=some o→b∈fs→∃ sl,h2.get? b=some { o with slots:=sl }):Un fs [] H0 H h0 h2 where
 keep:=fun b o e n hb hx=>k b o (u.keep b o e n hb hx) (hL b o e) hb
 slot:=fun b o e n hb hx=>by
  obtain ⟨sl,e1⟩:=u.slot b o e n hb hx
  obtain ⟨sl',e2⟩:=ks b _ e1 hb
  exact ⟨sl',e2⟩
 free:=u.free
 there:=fun b o e hx=>by
  obtain ⟨o',e1⟩:=u.there b o e hx
  by_cases hb:b∈fs
  ·obtain ⟨sl,e2⟩:=ks b o' e1 hb
   exact ⟨_,e2⟩
  ·exact ⟨o',k b o' e1 (hL b o e) hb⟩
 tups:=u.tups
 frzs:=u.frzs
 tbls:=u.tbls
section
variable {X:Cx} {pins:List (Addr×Obj)} {σ:St} {H:Hp} {s:Shared} {E:XK}
theorem fs_stk(stk:X.stack=X.env::X.outer)(hf:X.env.frame=some X.env.locals){b:Addr}:b∈frs X.stack↔b=X.env.locals∨b∈X.fs:=by
 rw [stk]
 unfold frs
 rw [List.filterMap_cons,hf]
 exact List.mem_cons
theorem frame_data{base h:Heap}{l:List Env}(f:h.FunFrames base l){b:Addr}(hb:b∈frs l):∃ o,h.get? b=some o∧∀ vs,o.data≠.fields vs:=(f.mem hb).2
theorem leave_made{M:Model}{h':Heap}{e:Addr}{cls:Value}{args:List Value}{Ee:Value→Shared→Prop}(I:Inv X pins σ H s)(stk:X.stack=X.env::X.outer)(hf:X.env.frame=some X.env.locals)(hex:X.ex= [])
  (m:Heap.MadeExcOf s.heap h' e cls args) (hE:E cls none H):
  wpAny M X.A (leaving X.env (.ref e)) (fun _ s''=>CXE X.prog X.w X.outer X.H₀ X.s₀ E (.ref e) s'') Ee { s with heap:=h' }:=by
 have hfr:X.A.frames=some (X.env::X.outer):=by rw [I.ok.frames,stk]
 have inB:∀ b o,s.heap.get? b=some o→b∉frs X.stack→(PySem.W.hideAll s.heap (frs X.stack)).get? b=some o:=fun b o q n=>PySem.W.hideAll_get _ q n
 refine wpAny_leaves_madeW (base:=PySem.W.hideAll s.heap (frs X.stack)) (h:=s.heap) (s:= { s with heap:=h' }) hfr hf (fun b o q=>PySem.W.of_hideAll _ q) ?_ m fun h2 t fl _ _ up=>?_
 ·have:=PySem.W.funFrames_hide (as:=frs X.stack) I.stack (fun env he a ha=>List.mem_filterMap.mpr ⟨env,he,ha⟩)
  rw [stk] at this ⊢
  exact this
 ·have k2:∀ b o,s.heap.get? b=some o→b∉frs X.stack→h2.get? b=some o:=fun b o q n=>fl.1 b o (inB b o q n)
  have neL:∀ b o,X.s₀.heap.get? b=some o→b≠X.env.locals:=fun b o q=>Nat.ne_of_lt (Nat.lt_of_lt_of_le (Heap.lt_size q) I.ok.above)
  have base:=I.base
  rw [hex] at base
  refine ⟨e,cls,_,_,H,rfl,I.os,I.bare,base.then neL (fun b o q n1 n2=>k2 b o q fun z=>?_) (fun b o q hb=>?_),fun b u q=>?_,fl,⟨fun b o q n=>?_,fun b u q=>?_⟩,hE⟩
  ·rcases (fs_stk stk hf).mp z with z | z
   ·exact n1 z
   ·exact n2 z
  ·obtain ⟨o2,q2,d2⟩:=frame_data I.stack ((fs_stk stk hf).mpr (.inr hb))
   rw [q] at q2
   cases q2
   exact up b o (m.keeps b o q) d2
  ·refine (I.hok b u q).stay (fun c v hc r=>k2 c v r fun z=>?_) (fun _ r=>r) fun _ _ r=>r
   have:=I.stkFree c z
   rcases hc with rfl | hc
   ·rw [this] at q;cases q
   ·rw [this] at hc;cases hc
  ·obtain ⟨o',q'⟩:=I.base.there b o q (by rw [hex];simp)
   refine ⟨o',inB b o' q' fun z=>?_⟩
   rcases (fs_stk stk hf).mp z with z | z
   ·exact neL b o q z
   ·exact n z
  ·obtain ⟨ob,q'⟩:=(I.hok b u q).there
   refine ⟨ob,inB b ob q' fun z=>?_⟩
   rw [I.stkFree b z] at q;cases q
theorem leave_on{M:Model}{s':Shared}{e:Value}{Ec:XK}{Ee:Value→Shared→Prop}(I:Inv X pins σ H s)(stk:X.stack=X.env::X.outer)(hf:X.env.frame=some X.env.locals)(hex:X.ex= [])
  (c:CXE X.prog X.w X.stack H s Ec e s') (hE:∀ cls dx H',Ec cls dx H'→E cls dx H'):
  wpAny M X.A (leaving X.env e) (fun _ s''=>CXE X.prog X.w X.outer X.H₀ X.s₀ E e s'') Ee s':=by
 obtain ⟨a,cls,a0,B,H',rfl,os,bare,un,hok,fl,⟨c1,c2⟩,q⟩:=c
 have hfr:X.A.frames=some (X.env::X.outer):=by rw [I.ok.frames,stk]
 have fl0:=fl
 rw [stk] at fl
 refine wpAny_leaves_onW hfr hf fl fun h2 fl2 up=>?_
 have I2:Inv X pins σ H' s':=I.call' (ch:= []) os un hok bare (fun b z=>absurd z (by simp))
 have neL:∀ b o,X.s₀.heap.get? b=some o→b≠X.env.locals:=fun b o q=>Nat.ne_of_lt (Nat.lt_of_lt_of_le (Heap.lt_size q) I.ok.above)
 have frB:∀ b∈frs X.stack,B.get? b=none:=fun b hb=>(fl0.2.2.1.mem hb).1
 have base:=I2.base
 rw [hex] at base
 have old:∀ b o,X.s₀.heap.get? b=some o→b∉X.fs→∃ o',B.get? b=some o':=fun b o e n=>by
  obtain ⟨o',e'⟩:=I.base.there b o e (by rw [hex];simp)
  refine c1 b o' e' fun z=>?_
  rcases (fs_stk stk hf).mp z with z | z
  ·exact neL b o e z
  ·exact n z
 refine ⟨a,cls,a0,B,H',rfl,?_,bare,⟨fun b o e n hb hx=>?_,fun b o e n hb hx=>?_,base.free,fun b o e hx=>?_,base.tups,base.frzs,base.tbls⟩,fun b u e=>?_,fl2,⟨old,c2⟩,hE _ _ _ q⟩
 ·exact os.trans I.os
 ·have e1:=base.keep b o e n hb hx
  obtain ⟨o',e2⟩:=old b o e hb
  have:=fl0.1 b o' e2
  rw [e1] at this
  cases this
  exact fl2.1 b _ e2
 ·obtain ⟨sl,e1⟩:=base.slot b o e n hb hx
  obtain ⟨o2,q2,d2⟩:=frame_data I2.stack ((fs_stk stk hf).mpr (.inr hb))
  rw [e1] at q2
  cases q2
  obtain ⟨sl',e2⟩:=up b _ e1 d2
  exact ⟨sl',e2⟩
 ·by_cases hb:b∈X.fs
  ·obtain ⟨o',e1⟩:=base.there b o e hx
   obtain ⟨o2,q2,d2⟩:=frame_data I2.stack ((fs_stk stk hf).mpr (.inr hb))
   obtain ⟨sl',e2⟩:=up b _ q2 d2
   exact ⟨_,e2⟩
  ·obtain ⟨o',e2⟩:=old b o e hb
   exact ⟨o',fl2.1 b o' e2⟩
 ·have stay:∀ c v,(c=b∨H' c=some (.own b))→s'.heap.get? c=some v→h2.get? c=some v:=fun c v hc r=>by
   have:∃ u',H' c=some u':=by
    rcases hc with rfl | hc
    ·exact ⟨u,e⟩
    ·exact ⟨_,hc⟩
   obtain ⟨u',hu⟩:=this
   obtain ⟨o',e2⟩:=c2 c u' hu
   have:=fl0.1 c o' e2
   rw [r] at this
   cases this
   exact fl2.1 c _ e2
  exact (hok b u e).stay stay (fun _ r=>r) fun _ _ r=>r
end
end L2
namespace L2
open PySem PySem.Spec PyProof.Rows
theorem exc_lies{K:PySem.W.Frag}{h:Heap}{C:Addr}{bmB:List Value}{newId:String}(kin:K.In h)(ok:PySem.W.excIn K C bmB newId=true):
  ∃ bm N nm q bs hdct sn sub ab col dd k0 k1 k2 k3 k5 mN,h.get? C=some (excClassObj nm q C N bs bm hdct sn sub ab col dd k0 k1 k2 k3 k5 newId)∧h.Ns N mN∧mN "__init__"=none∧OwnTail h bmB bm:=by
 unfold PySem.W.excIn at ok
 split at ok
 case h_2=>exact absurd ok (by decide)
 case h_1 dict cdat sls lk=>
  split at ok
  case h_2=>exact absurd ok (by decide)
  case h_1 C2 tl f0 f1 f2 f3 nid f5 em es=>
   rw [Bool.and_eq_true,Bool.and_eq_true,Bool.and_eq_true,Bool.and_eq_true,Bool.and_eq_true] at ok
   obtain ⟨⟨⟨⟨⟨z1,z2⟩,z3⟩,z4⟩,z5⟩,z6⟩:=ok
   rw [Bool.not_eq_true'] at z3
   have es':sls= #[f0,f1,f2,f3,some (.builtin nid),f5]:=Array.toList_inj.mp es
   cases beq_iff_eq.mp z1
   cases beq_iff_eq.mp z2
   rcases cdat with ⟨c1,c2,c3,c4,c5,c6,c7,c8,c9,c10,c11⟩
   change c3=_ at em
   change c11=false at z3
   subst em z3 es'
   exact ⟨tl,c4,c1,c5,c2,c6,c7,c8,c9,c10,dict,f0,f1,f2,f3,f5,_,kin _ _ lk,.of_isNs (PySem.W.isNs_of_in kin z5),PySem.W.nsMap_none_of_in kin z5 (beq_iff_eq.mp z6),PySem.W.tail_of_in kin z4⟩
def Lv(X:Cx)(E:XK):Prop:=X.stack=X.env::X.outer∧X.env.frame=some X.env.locals∧X.ex= []∧
 ∀ e s',wpAny (model X.prog X.w) X.A (leaving X.env e) (fun _ s''=>CXE X.prog X.w X.outer X.H₀ X.s₀ E e s'') (fun e' s''=>CXE X.prog X.w X.outer X.H₀ X.s₀ E e' s'') s'→X.xe e s'
theorem lv_cxOf{P:Program}{w:World}{K:PySem.W.Frag}{mg:Str→Option Value}{base:Heap}{N:List Str}{qual:Str}{scope:Scope}{f:Addr}{cd:Value}{A:Around}{outer:List Env}{s:Shared}{H:Hp}{E:XK}:
  Lv (cxOf (CXE P w) P w K mg base N qual scope f cd A outer s H E) E:=⟨rfl,rfl,rfl,fun _ _ h=>h⟩
theorem Lv.passes{X:Cx}{E Ec:XK}(l:Lv X E)(h:∀ cls dx H',Ec cls dx H'→E cls dx H'):Passes (CXE X.prog X.w) X Ec:=fun pins σ H s e s' I c=>l.2.2.2 e s' (leave_on I l.1 l.2.1 l.2.2.1 c h)
section
variable {X:Cx} {E:XK} {x:Str} {C:Addr} {np cpos pos:Pos} {e0:Expr} {es:List Expr} {ta:TA} {bmB bmN:List Value} {B Bn newId nid initId inN:String}
def tRaise(C:Addr)(E:XK)(ta:TA):TS:=fun _ σ H=>ta σ H fun vs H1=>vs.length≤sizeLine∧E (.ref C) none H1
theorem ps_raise(Fn:ExcBaseFacts Bn newId inN bmN)(hBn:bmB.contains (.type Bn)=true)(FB:ExcBaseFacts B nid initId bmB)(ok:PySem.W.excIn X.K C bmB newId=true)(hg:Gl X x)(hm:X.mg x=some (.ref C))(hc:X.calm=true)(l:Lv X E)
  (ha:PA X (e0::es) ta) (hdb:(x==("__debug__":Str))=false:=by decide) (he:starEach (e0::es) X.env=(false,eval e0 X.env)::starEach es X.env:=by rfl) (hpl:(backTo cpos (starEach es X.env)).any (·.1)=false:=by rfl):
  PS X (.Raise (some (.Call (.Name x np) (e0::es) [] cpos)) none pos) (tRaise C E ta):=by
 intro pins s σ H D I h
 obtain ⟨bm,N,nm,q,bs,hdct,sn,sub,ab,col,dd,k0,k1,k2,k3,k5,mN,hC,hN,hni,T⟩:=exc_lies I.mod.kin ok
 have step:=ha cpos pins s σ H _ I h
 refine wpAny_Raise_call_subU (C:=C) (nm:=nm) (q:=q) (N:=N) (bs:=bs) (bm:=bm) (hdct:=hdct) (sn:=sn) (sub:=sub) (ab:=ab) (col:=col) (dd:=dd) (k0:=k0) (k1:=k1) (k2:=k2) (k3:=k3) (k5:=k5)
  Fn hBn FB (mN:=mN) (T.hasType FB.hasBase) (I.ok.hd hc) ?_ hni (ld_glob I hg hm ⟨rfl,?_⟩ hdb)
 ·rw [he]
  show (false||(backTo cpos (starEach es X.env)).any (·.1))=false
  rw [hpl];rfl
 ·rw [he] at step ⊢
  refine Calls.evalArgs_plain (thn step fun us s2 ⟨vs,H2,I2,r2,len,q2⟩=>?_)
  refine ⟨rfl,?_,I2.bk _ _ hC,hN.keeps I2.bk,T.keeps I2.bk,fun h' e made=>l.2.2.2 _ _ (leave_made I2 l.1 l.2.1 l.2.2.1 made q2)⟩
  show us.length≤sizeLine
  rw [← r2.length];exact len
end
end L2
namespace L2
open PySem PySem.Spec PyProof.Rows
def ExcO(a:Addr)(cls:Value):HO:=.ext fun h=>∃ o vs,h.get? a=some o∧o.cls=cls∧o.data= .fields vs
section
variable {X:Cx} {pins:List (Addr×Obj)} {σ:St} {H H':Hp} {s s':Shared} {a:Addr} {cls a0:Value} {B h2:Heap} {E:XK}
theorem fly_inv(I:Inv X pins σ H s)(os:s'.os=s.os)(bare:AllBare s'.gens)(un:Un (frs X.stack) [] H H' s.heap s'.heap)(hok:HOk X.prog X.w H' s'.heap)(fl:Heap.FlyingW B X.stack a cls a0 s'.heap)(cov:Cov X.stack s.heap H' B)
  (st:B.StaysIn h2) (up:s'.heap.UpToSlots h2) (ex:∃ o vs,h2.get? a=some o∧o.cls=cls∧o.data= .fields vs):Inv X pins σ (upd H' a (ExcO a cls)) { s' with heap:=h2 }:=by
 obtain ⟨c1,c2⟩:=cov
 have na:H' a=none:=by
  cases q:H' a with
  | none=>rfl
  | some u=>
   obtain ⟨o',z⟩:=c2 a u q
   rw [fl.2.1] at z;cases z
 have frD:∀ b∈frs X.stack,∃ o,s'.heap.get? b=some o∧∀ vs,o.data≠.fields vs:=fun b hb=>(fl.2.2.1.mem hb).2
 have neA:∀ b o,s.heap.get? b=some o→b≠a:=fun b o e z=>by
  subst z
  by_cases hb:b∈frs X.stack
  ·obtain ⟨o1,q1,d1⟩:=frD b hb
   obtain ⟨oe,vs,q2,_,d2,_⟩:=fl.first
   rw [q1] at q2
   cases q2
   exact d1 vs d2
  ·obtain ⟨o',z⟩:=c1 b o e hb
   rw [fl.2.1] at z;cases z
 have eqB:∀ b o o',s'.heap.get? b=some o→B.get? b=some o'→h2.get? b=some o:=fun b o o' e z=>by
  have:=fl.1 b o' z
  rw [e] at this
  cases this
  exact st b _ z
 have un2:Un (frs X.stack) [] H (upd H' a (ExcO a cls)) s.heap h2:=by
  refine ⟨fun b o e n hb hx=>?_,fun b o e n hb hx=>?_,fun b o e n hx=>?_,fun b o e hx=>?_,fun b xs e=>?_,fun b o u e=>?_,fun b ps e=>?_⟩
  ·obtain ⟨o',z⟩:=c1 b o e hb
   exact eqB b o o' (un.keep b o e n hb hx) z
  ·obtain ⟨sl,e1⟩:=un.slot b o e n hb hx
   obtain ⟨o1,q1,d1⟩:=frD b hb
   rw [e1] at q1
   cases q1
   obtain ⟨sl',e2⟩:=up b _ e1 d1
   exact ⟨sl',e2⟩
  ·rw [upd_ne (neA b o e)];exact un.free b o e n hx
  ·by_cases hb:b∈frs X.stack
   ·obtain ⟨o1,q1,d1⟩:=frD b hb
    obtain ⟨sl',e2⟩:=up b _ q1 d1
    exact ⟨_,e2⟩
   ·obtain ⟨o',z⟩:=c1 b o e hb
    exact ⟨o',st b o' z⟩
  ·have:=un.tups b xs e
   rw [upd_ne (ne_of_none this na)];exact this
  ·have:=un.frzs b o u e
   rw [upd_ne (ne_of_none this na)];exact this
  ·obtain ⟨more,z⟩:=un.tbls b ps e
   exact ⟨more,by rw [upd_ne (ne_of_none z na)];exact z⟩
 have hok2:HOk X.prog X.w (upd H' a (ExcO a cls)) h2:=fun b u e=>by
  by_cases hb:b=a
  ·subst hb
   rw [upd_same] at e
   cases e
   obtain ⟨o,vs,q1,q2,q3⟩:=ex
   exact ⟨⟨o,vs,q1,q2,q3⟩,⟨o,q1⟩,fun h1 h3 ⟨o,vs,r1,r2,r3⟩ k=>⟨o,vs,k o r1,r2,r3⟩⟩
  ·rw [upd_ne hb] at e
   refine (hok b u e).stay (fun c v hc r=>?_) (fun c r=>?_) fun c xs r=>?_
   ·have:∃ u',H' c=some u':=by
     rcases hc with rfl | hc
     ·exact ⟨u,e⟩
     ·exact ⟨_,hc⟩
    obtain ⟨u',hu⟩:=this
    obtain ⟨o',z⟩:=c2 c u' hu
    exact eqB c v o' r z
   ·rw [upd_ne (ne_of_none r na)];exact r
   ·rw [upd_ne (ne_of_none r na)];exact r
 exact I.call' (s':= { s' with heap:=h2 }) (ch:= []) os un2 hok2 bare (fun b z=>absurd z (by simp))
theorem Inv.lost{m':Str→Option Value}{t':Nat}(I:Inv X pins σ H s)(ns:h2.Ns X.env.locals m')(sb:Heap.SameBut X.env.locals s.heap h2):Inv X pins (List.replicate X.N.length none) H { s with heap:=h2,toks:=t' }:=by
 obtain ⟨m,⟨oL,esL,epL,hoL,rL⟩,_⟩:=id I.loc
 have ne0:∀ b o,X.s₀.heap.get? b=some o→b≠X.env.locals:=fun b o q=>Nat.ne_of_lt (Nat.lt_of_lt_of_le (Heap.lt_size q) I.ok.above)
 refine ⟨I.ok,I.os,I.bare,⟨fun b o e n hb hx=>?_,fun b o e n hb hx=>?_,I.base.free,fun b o e hx=>?_,I.base.tups,I.base.frzs,I.base.tbls⟩,⟨m',ns,fun i x v _ e _=>?_⟩,fun x c e=>?_,I.free,I.freeC,fun p hp=>?_,fun b u e=>?_,by simp⟩
 ·exact (sb.2 b (ne0 b o e)).trans (I.base.keep b o e n hb hx)
 ·obtain ⟨sl,e1⟩:=I.base.slot b o e n hb hx
  exact ⟨sl,(sb.2 b (ne0 b o e)).trans e1⟩
 ·obtain ⟨o',e1⟩:=I.base.there b o e hx
  exact ⟨o',(sb.2 b (ne0 b o e)).trans e1⟩
 ·rw [List.getElem?_replicate] at e
  split at e<;>cases e
 ·obtain ⟨v,o,ho,hd⟩:=I.cell x c e
  exact ⟨v,o,(sb.2 c (I.cne x c e)).trans ho,hd⟩
 ·obtain ⟨e,n,ne,nf,d⟩:=I.pin p hp
  exact ⟨(sb.2 p.1 ne).trans e,n,ne,nf,d⟩
 ·refine (I.hok b u e).stay (fun c v hc r=>(sb.2 c ?_).trans r) (fun _ r=>r) fun _ _ r=>r
  rintro rfl
  rcases hc with z | z
  ·rw [← z,I.free] at e;cases e
  ·rw [I.free] at z;cases z
end
end L2
namespace L2
open PySem PySem.Spec PyProof.Rows
abbrev Cx.tried(X:Cx)(pn:List (Addr×Obj))(W:Value→Shared→Prop):Cx:= { X with pn:=pn,xe:=W }
abbrev Cx.suite(X:Cx)(pn:List (Addr×Obj))(a:Addr):Cx:= { X with pn:=pn,xe:=fun _ _=>False,A:=X.A.mark (some (.ref a)),calm:=false }
section
variable {X:Cx} {pins pn:List (Addr×Obj)} {σ:St} {H:Hp} {s:Shared} {W:Value→Shared→Prop} {a:Addr}
theorem ok_tried(k:X.Ok):(X.tried pn W).Ok:=⟨k.mod,k.kind,k.glob,k.blt,k.above,k.inj,k.has,k.cab,k.hd,k.frames,k.stk,k.exf,k.bs,k.bsz,k.noex,k.exfs,k.funs,k.frf⟩
theorem ok_untried(k:(X.tried pn W).Ok):X.Ok:=⟨k.mod,k.kind,k.glob,k.blt,k.above,k.inj,k.has,k.cab,k.hd,k.frames,k.stk,k.exf,k.bs,k.bsz,k.noex,k.exfs,k.funs,k.frf⟩
theorem ok_suite(k:X.Ok):(X.suite pn a).Ok:=⟨k.mod,k.kind,k.glob,k.blt,k.above,k.inj,k.has,k.cab,fun z=>Bool.noConfusion z,k.frames,k.stk,k.exf,k.bs,k.bsz,k.noex,k.exfs,k.funs,k.frf⟩
theorem inv_tried(I:Inv X pins σ H s):Inv (X.tried (X.pn++pins) W) [] σ H s:=⟨ok_tried I.ok,I.os,I.bare,I.base,I.loc,I.cell,I.free,I.freeC,fun p hp=>I.pin p (by simpa using hp),I.hok,I.len⟩
theorem inv_untried(k:X.Ok)(I:Inv (X.tried (X.pn++pins) W) [] σ H s):Inv X pins σ H s:=⟨k,I.os,I.bare,I.base,I.loc,I.cell,I.free,I.freeC,fun p hp=>I.pin p (by simpa using hp),I.hok,I.len⟩
theorem inv_suite(I:Inv (X.tried pn W) [] σ H s):Inv (X.suite pn a) [] σ H s:=⟨ok_suite (ok_untried I.ok),I.os,I.bare,I.base,I.loc,I.cell,I.free,I.freeC,I.pin,I.hok,I.len⟩
theorem inv_unsuite(k:X.Ok)(I:Inv (X.suite (X.pn++pins) a) [] σ H s):Inv X pins σ H s:=⟨k,I.os,I.bare,I.base,I.loc,I.cell,I.free,I.freeC,fun p hp=>I.pin p (by simpa using hp),I.hok,I.len⟩
theorem sp_untried{D:Ends}{f:Flow}(k:X.Ok)(h:SP (X.tried (X.pn++pins) W) [] D f s):SP X pins D f s:=by
 cases f with
 | next=>obtain ⟨σ',H',I,q⟩:=h;exact ⟨σ',H',inv_untried k I,q⟩
 | brk=>obtain ⟨σ',H',I,q⟩:=h;exact ⟨σ',H',inv_untried k I,q⟩
 | cont=>obtain ⟨σ',H',I,q⟩:=h;exact ⟨σ',H',inv_untried k I,q⟩
 | ret u=>obtain ⟨v,σ',H',I,r,q⟩:=h;exact ⟨v,σ',H',inv_untried k I,r,q⟩
end
def Hit(K:PySem.W.Frag)(T:Addr)(i n:Nat)(ts:TS)(R:VK):XK:=fun cls _ H'=>PySem.W.exmOne K cls (.ref T)=some true∧∀ (a:Addr) (σ':St),σ'.length=n→H' a=none→ts { nx:=fun _ _=>False,rt:=R } (σ'.set i (some (.ref a))) (upd H' a (ExcO a cls))
def tTry(K:PySem.W.Frag)(T:Addr)(i n:Nat)(tb:XK→TS)(ts:TS):TS:=fun D σ H=>tb (Hit K T i n ts D.rt) D σ H
theorem ps_try{X:Cx}{body suite:List Stmt}{b0:Stmt}{tb:XK→TS}{ts:TS}{t n:Str}{T:Addr}{i:Nat}{tp hpos pos:Pos}(stk:X.stack=X.env::X.outer)(hf:X.env.frame=some X.env.locals)
  (hb:∀ pn W Eb,Passes (CXE X.prog X.w) (X.tried pn W) Eb→PSs (X.tried pn W) body (tb Eb)) (hs:∀ pn a,PSs (X.suite pn a) (b0::suite) ts)
  (hN:X.N.Nodup) (hi:X.N[i]? =some n) (hn:X.env.scope.names.lookup n=some .local) (hg:Gl X t) (hm:X.mg t=some (.ref T)) (hdb:(t==("__debug__":Str))=false:=by decide):
  PS X (.Try body [.ExceptHandler (some (.Name t tp)) (some n) (b0::suite) hpos] [] [] pos) (tTry X.K T i X.N.length tb ts):=by
 intro pins s σ H D I h
 let W:Value→Shared→Prop:=fun e s1=>∃ (a:Addr) (cls a0:Value) (B:Heap) (σ':St) (H':Hp),e= .ref a∧Heap.FlyingW B X.stack a cls a0 s1.heap∧H' a=none∧Hit X.K T i X.N.length ts D.rt cls none H'∧
  ∀ h2,B.StaysIn h2→s1.heap.UpToSlots h2→(∃ o vs,h2.get? a=some o∧o.cls=cls∧o.data= .fields vs)→Inv X pins σ' (upd H' a (ExcO a cls)) { s1 with heap:=h2 }
 have pas:Passes (CXE X.prog X.w) (X.tried (X.pn++pins) W) (Hit X.K T i X.N.length ts D.rt):=by
  intro pins' σ' H1 s0 e s1 I1 c
  obtain ⟨a,cls,a0,B,H',rfl,os,bare,un,hok,fl,cov,q⟩:=c
  have na:H' a=none:=by
   cases z:H' a with
   | none=>rfl
   | some u=>
    obtain ⟨o',y⟩:=cov.2 a u z
    rw [fl.2.1] at y;cases y
  exact ⟨a,cls,a0,B,σ',H',rfl,fl,na,q,fun h2 st up ex=>inv_untried I.ok ((fly_inv I1 os bare un hok fl cov st up ex).pins_of (pins':= []) (fun p hp=>absurd hp (by simp)))⟩
 refine wpAny_Try_except (wpAny_mono (hb _ W _ pas [] s σ H D (inv_tried I) h) (fun f s1 q=>?_) fun e s1 q=>?_)
 ·have q:=sp_untried I.ok q
  cases f with
  | next=>exact wpAny_execs_nil q
  | brk=>exact q
  | cont=>exact q
  | ret u=>exact q
 ·obtain ⟨a,cls,a0,B,σ',H',rfl,fl,na,⟨hx,go⟩,stab⟩:=q
  have hfr:X.A.frames=some (X.env::X.outer):=by rw [I.ok.frames,stk]
  rw [stk] at fl
  refine wpAny_looks_onW hfr hf fl fun h4 held up4=>?_
  refine wpAny_landsW held fun h5 fl5 up5=>?_
  have first5:∃ o vs,h5.get? a=some o∧o.cls=cls∧o.data= .fields vs:=by
   obtain ⟨oe,vs,q1,q2,q3,_⟩:=fl5.first
   exact ⟨oe,vs,q1,q2,q3⟩
  have I5:=stab h5 fl5.1 (up4.trans up5) first5
  refine wpAny_handleBy_cons (codeAny_handlers_test (Calls.Name_function_global I.ok.kind hg (Calls.loadGlobal_global (by rw [I.ok.glob];exact I.ok.mod.glob.keeps I5.bk) hm ?_) hdb)) (by intro z;cases z)
  have LT:PySem.W.Looks (model X.prog X.w) h5 (typeOf (.ref a)) cls:=by
   obtain ⟨o,vs,q1,q2,_⟩:=first5
   subst q2
   exact (PySem.W.Looks.ld q1).andThen .now
  refine PySem.W.Looks.here (s:= { s1 with heap:=h5 }) (PySem.W.exm_one (K:=X.K) I5.kIn LT hx) ?_
  refine codeAny_handlers_suite_as ?_
  refine lands_againW fl5 fun h6 fl6 up6=>?_
  have first6:∃ o vs,h6.get? a=some o∧o.cls=cls∧o.data= .fields vs:=by
   obtain ⟨oe,vs,q1,q2,q3,_⟩:=fl6.first
   exact ⟨oe,vs,q1,q2,q3⟩
  have I6:=stab h6 fl6.1 ((up4.trans up5).trans up6) first6
  have I6s:Inv (X.suite (X.pn++pins) a) [] σ' (upd H' a (ExcO a cls)) { s1 with heap:=h6 }:=inv_suite (W:=X.xe) (inv_tried I6)
  refine store_ok (X:=X.suite (X.pn++pins) a) I6s hN hi (.inl hn) (v:=.ref a) rfl (fun s7 I7=>?_) (.inr hn)
  refine wpAny_mono (hs _ a [] s7 _ _ { nx:=fun _ _=>False,rt:=D.rt } I7 (go a σ' I6.len na)) (fun f s8 q=>?_) fun e s8 z=>z.elim
  cases f with
  | next=>obtain ⟨_,_,_,z⟩:=q;exact z.elim
  | brk=>obtain ⟨_,_,_,z⟩:=q;exact z.elim
  | cont=>obtain ⟨_,_,_,z⟩:=q;exact z.elim
  | ret u=>
   obtain ⟨v,σ8,H8,I8,r8,q8⟩:=q
   have J8:=inv_unsuite I.ok I8
   obtain ⟨m8,ns8,_⟩:=id J8.loc
   refine wpAny_nameGoes hn ns8 (by rw [I.ok.kind];rfl) fun h9 m9 ns9 sb=>?_
   exact ⟨v,_,H8,J8.lost ns9 sb,r8,q8⟩
end L2
namespace L2
open PySem PySem.Spec PyProof.Rows
structure RoomH(k:Nat)(A:Around):Prop where
 dp:A.depth+3 * k+5<recursionLimit
 un:A.units+16 * k+200<cLine
 gd:A.guards=some []
theorem Room.h{k:Nat}{A:Around}(r:Room k A):RoomH k A:=⟨r.dp,r.un,r.gd⟩
theorem RoomH.mark{k:Nat}{A:Around}(r:RoomH k A)(e:Option Value):RoomH k (A.mark e):=⟨r.dp,r.un,r.gd⟩
theorem RoomH.deeper{k:Nat}{A:Around}(r:RoomH (k+1) A)(env:Env):RoomH k (A.deeper env):=
 ⟨by have:=r.dp;show A.depth+1+3 * k+5<_;omega,by have:=r.un;show A.units+3+16 * k+200<_;omega,r.gd⟩
theorem RoomH.units{k:Nat}{A:Around}(r:RoomH k A):A.units+64<cLine:=by have:=r.un;omega
structure FnOkH(P:Program)(w:World)(K:PySem.W.Frag)(mg:Str→Option Value)(base:Heap)(k:Nat)(f:Addr)(fd:FuncData)(ps:List Str)(sp:Sp):Prop where
 len:∀ vs H Q E,sp vs H Q E→vs.length=ps.length
 run:∀ (A:Around) (outer:List Env) (s:Shared) (H:Hp) (args:Args) (us:List Value) (vs:List V) (Q:VK) (E:XK),RoomH k A→Env0 P w K mg base A outer s H→BindsTo s fd args (ps.zip us)→Vals vs us→sp vs H Q E→
  codeAny (model P w) A (.call (.ref f) args) (CR CX0 outer P w H s Q E) s
abbrev cxH(P:Program)(w:World)(K:PySem.W.Frag)(mg:Str→Option Value)(base:Heap)(N:List Str)(qual:Str)(scope:Scope)(f:Addr)(cd:Value)(A:Around)(outer:List Env)(s:Shared)(H:Hp)(E:XK):Cx:=
 { cxOf CX0 P w K mg base N qual scope f cd A outer s H E with calm:=false,xe:=fun _ _=>False }
theorem inv_startH{P:Program}{w:World}{K:PySem.W.Frag}{mg:Str→Option Value}{base:Heap}{N ps:List Str}{qual:Str}{scope:Scope}{f:Addr}{cd:Value}{A:Around}{outer:List Env}{s s1:Shared}{H:Hp}{E:XK}{us:List Value}{vs:List V}
  (S:FnScope N ps scope) (e0:Env0 P w K mg base A outer s H) (hl:vs.length=ps.length) (r:Vals vs us)
  (x:InCallC s s.heap.objs.size (bindL (envOfC qual scope s.heap.objs.size f cd).kindOf (ps.zip us) fun _=>none) (cellsFrom (s.heap.objs.size+1) scope.names []) (bindC (envOfC qual scope s.heap.objs.size f cd).kindOf (ps.zip us) fun _=>none) s1):
  Inv (cxH P w K mg base N qual scope f cd A outer s H E) [] (start N vs) H s1:=by
 have e1:Env0 P w K mg base { A with handled:=none } outer s H:=⟨e0.frames,e0.mod,e0.bs,e0.bsz,e0.funs,e0.frf,e0.hok,e0.bare⟩
 have I:=inv_start (CX:=CX0) (E:=E) S (A:= { A with handled:=none }) rfl e1 hl r x
 have k:=I.ok
 exact ⟨⟨k.mod,k.kind,k.glob,k.blt,k.above,k.inj,k.has,k.cab,fun z=>Bool.noConfusion z,k.frames,k.stk,k.exf,k.bs,k.bsz,k.noex,k.exfs,k.funs,k.frf⟩,I.os,I.bare,I.base,I.loc,I.cell,I.free,I.freeC,I.pin,I.hok,I.len⟩
theorem fn_ofH{P:Program}{w:World}{K:PySem.W.Frag}{mg:Str→Option Value}{base:Heap}{k:Nat}{x qual:Str}{st:Stmt}{f:Addr}{fd:FuncData}{N ps:List Str}{sp:Sp}(F:Fun K x qual st f fd)(S:FnScope N ps (defScope st))(len:∀ vs H Q E,sp vs H Q E→vs.length=ps.length)
  (hbody:∀ (cdv:Value) (A:Around) (outer:List Env) (s:Shared) (H:Hp) (vs:List V) (Q:VK) (E:XK),RoomH k (A.deeper (envOfC qual (defScope st) s.heap.objs.size f cdv))→sp vs H Q E→
   ∃ t,PSs (cxH P w K mg base N qual (defScope st) f cdv A outer s H E) (defBody st) t∧t { nx:=fun _ H'=>Q .non H',rt:=Q } (start N vs) H):FnOkH P w K mg base (k+1) f fd ps sp:=by
 obtain ⟨oc,od,kV,doc,pm,an,cdv,ct,osl,rfl,lk,hcd⟩:=F.ex
 refine ⟨len,fun A outer s H args us vs Q E hr e0 hb r hsp=>?_⟩
 have hl:=len _ _ _ _ hsp
 have KX:K.In s.heap:=e0.mod.kin.keeps fun b o e=>(e0.bs b o e).1
 have lim:s.heap.NoLimit:=e0.mod.nolimit.keeps fun b o e=>(e0.bs b o e).1
 have hkind:∀ y∈ps.zip us,(defScope st).names.lookup y.1=some .local∨((defScope st).names.lookup y.1=some .cell∧((cellsFrom (s.heap.objs.size+1) (defScope st).names []).lookup y.1).isSome=true):=fun ⟨n,v⟩ hy=>by
  rcases S.par n (List.of_mem_zip hy).1 with q | q
  ·exact .inl q
  ·exact .inr ⟨q,PySem.W.cellsFrom_some _ _ _ (.inl q)⟩
 refine codeAny_call_function (by have:=hr.dp;omega) (KX _ _ lk) rfl S.co S.gen rfl (PySem.W.codeRec_of KX hcd) (hb _ _ _ _ ?_)
 refine wpAny_newFunctionEnv_cells S.kind hkind fun env he s1 x=>?_
 subst he
 refine ⟨lim.keeps x.toInCall.keep,codeAny_func ?_⟩
 obtain ⟨t,ht,hq⟩:=hbody cdv A outer s H vs Q E (hr.deeper _) hsp
 have I:=inv_startH (cd:=cdv) (f:=f) (qual:=qual) (E:=E) S e0 hl r x
 refine wpAny_mono (ht [] s1 (start N vs) H _ I hq) (fun fl s' hs=>?_) fun e s' hs=>hs.elim
 have fin:∀ {σ':St} {H':Hp} {v:V} {u:Value},Inv (cxH P w K mg base N qual (defScope st) f cdv A outer s H E) [] σ' H' s'→RelV v u→Q v H'→CE outer P w H s Q u s':=
  fun {σ' H' v u} J rv q=>⟨v,H',J.os,J.bare,J.base,J.hok,rv,q⟩
 cases fl with
 | ret u=>
  obtain ⟨v,σ',H',J,rv,q⟩:=hs
  exact fin J rv q
 | next=>
  obtain ⟨σ',H',J,q⟩:=hs
  exact fin (v:=V.non) (u:=Value.none) J rfl q
 | brk=>
  obtain ⟨_,_,_,q⟩:=hs
  exact False.elim q
 | cont=>
  obtain ⟨_,_,_,q⟩:=hs
  exact False.elim q
section
variable {X:Cx} {k:Nat} {f:Addr} {fd:FuncData} {ps:List Str} {sp:Sp} {x:Str} {p pos:Pos} {e:Expr} {es:List Expr} {t:TA}
theorem pe_callH(F:FnOkH X.prog X.w X.K X.mg X.base k f fd ps sp)(hr:RoomH k X.A)(hg:Gl X x)(hm:X.mg x=some (.ref f))(hk:PySem.W.keepIn X.K (.ref f)=true)(hb:Binds X.K fd ps [])
  (ha:PA X (e::es) t) (hdb:(x==("__debug__":Str))=false:=by decide) (he:starEach (e::es) X.env=(false,eval e X.env)::starEach es X.env:=by rfl) (hpl:(backTo pos (starEach es X.env)).any (·.1)=false:=by rfl):
  PE X (.Call (.Name x p) (e::es) [] pos) (tCall sp [] E0 t):=by
 intro pins s σ H Q I h
 refine wpAny_Call_Name_kw (ld_glob I hg hm ?_ hdb)
 refine PySem.W.callWith_K (h₀:=X.base) I.ok.mod.kin hk (thn (ha pos pins s σ H _ I h) fun us s1 ⟨vs,H1,I1,r,q⟩=>⟨I1.kIn,?_⟩) he hpl
 have q:sp (vs++ []) H1 Q E0:=q
 rw [List.append_nil] at q
 have hl:us.length=ps.length:=by rw [← r.length];exact F.len _ _ _ _ q
 have bd:=hb s1 us I1.kIn (by rw [List.append_nil];exact hl)
 rw [List.append_nil] at bd
 refine wpAny_call (codeAny_mono (F.run X.A X.stack s1 H1 ⟨us,[]⟩ us vs Q E0 hr I1.env0 bd r q) fun r s' hq=>?_)
 cases r with
 | error e=>exact hq.elim
 | ok fl=>
  cases fl with
  | ret u=>exact I1.after hq
  | next=>exact False.elim hq
  | brk=>exact False.elim hq
  | cont=>exact False.elim hq
end
end L2
namespace L2
open PySem PySem.Spec PyProof.Rows PySem.W PySem.Builtin PySem.Builtin.ObjectAttr PySem.Builtin.Getset_descriptor
structure XCls(K:Frag)(C:Addr):Prop where
 ga:findIn K (.ref C) "__getattribute__"=some (some (.builtin "BaseException.__getattribute__"))
 gt:findIn K (.ref C) "__getattr__"=some none
 mb:mroIn K C (.type "BaseException")=some true
section
variable {prog:Program} {w:World} {A:Around} {E:Value→Shared→Prop} {K:Frag} {x C:Addr} {name:Str} {tk:Tok} {s:Shared}
theorem x_entry{r:Found}{Q:Fin→Shared→Prop}(L0:Looks (model prog w) s.heap (typeOf (.ref x)) (.ref C))(L1:Looks (model prog w) s.heap (find (.ref x) (.ref C) name) r)
  (h:match r with
   | .value v=>Q (.done (.ret v)) s
   | .bind g a=>wpAny (model prog w) A (bindTo g a (.ref x) (.ref C)) Q E s
   | .missing=>False):wpAny (model prog w) A (Builtin.«object.__getattribute__» ⟨[.ref x,.str name tk],[]⟩) Q E s:=by
 obtain ⟨hh,g,d,t,os⟩:=s
 refine wpAny_bind (wpAny_pure (wpAny_bind (wpAny_pure (wpAny_bind (L0.at (wpAny_bind (L1.at ?_)))))))
 cases r with
 | value v=>exact wpAny_pure h
 | bind g a=>exact h
 | missing=>exact h.elim
theorem x_by{fill expr:Bool}{Q:Value→Shared→Prop}(c:XCls K C)(kin:K.In s.heap)(L0:Looks (model prog w) s.heap (typeOf (.ref x)) (.ref C))
  (h:codeAny (model prog w) A (.call (.builtin "BaseException.__getattribute__") ⟨[.ref x,.str name tk],[]⟩) (fun r s'=>match r with | .ok (.ret v)=>handedIn v=true∧Q v s' | _=>False) s):
  wpAny (model prog w) A (getAttrBy (.ref x) (.str name tk) fill expr) Q E s:=by
 obtain ⟨hh,g,d,t,os⟩:=s
 have L1:=looks_findIn (M:=model prog w) kin c.ga
 have L2:=looks_findIn (M:=model prog w) kin c.gt
 have no:(onTheHeap (Value.ref C)&&Value.builtin "BaseException.__getattribute__"==Value.builtin "object.__getattribute__")=false:=by
  rw [show (Value.builtin "BaseException.__getattribute__"==Value.builtin "object.__getattribute__")=false by decide+kernel];rfl
 have no2:(expr&&onTheHeap (Value.builtin "BaseException.__getattribute__"))=false:=by cases expr<;>rfl
 unfold getAttrBy
 refine wpAny_holding (wpAny_bind (L0.at (wpAny_bind (L1.at ?_))))
 dsimp only
 rw [no,if_neg (by decide)]
 unfold getAttrByItsOwn callGetattribute boundAndCalled
 rw [no2,if_neg (by decide)]
 refine wpAny_bind (L2.at (wpAny_bind (wpAny_attempt (wpAny_holding ?_))))
 rw [PySem.F.attr_ValueError.ga.bind]
 refine wpAny_bind (wpAny_pure (wpAny_call (codeAny_mono h fun r s' z=>?_)))
 cases r with
 | error e=>exact z.elim
 | ok f=>cases f with
  | ret v=>exact handed_on z.1 z.2
  | next=>exact z.elim
  | brk=>exact z.elim
  | cont=>exact z.elim
theorem x_call{R:Result→Shared→Prop}(c:XCls K C)(kin:K.In s.heap)(L0:Looks (model prog w) s.heap (typeOf (.ref x)) (.ref C))
  (h:wpAny (model prog w) A.in1 (Builtin.«object.__getattribute__» ⟨[.ref x,.str name tk],[]⟩) (fun fin s'=>match fin with | .done f=>R (.ok f) s' | .again c'=>c'.quiet=true∧codeAny (model prog w) A c' R s') (fun e s'=>R (.error e) s') s):
  codeAny (model prog w) A (.call (.builtin "BaseException.__getattribute__") ⟨[.ref x,.str name tk],[]⟩) R s:=by
 have k1:builtinKind "BaseException.__getattribute__"=some .slot:=by decide+kernel
 have k2:splitId "BaseException.__getattribute__"=some ("BaseException","__getattribute__"):=by decide+kernel
 have isB:Looks (model prog w) s.heap (isInstance (.ref x) (.type "BaseException")) true:=L0.andThen (looks_mroIn kin c.mb)
 refine codeAny_call_builtin PySem.F.attr_ValueError.ga.plain PySem.F.entry_bexc_ga (@check_slot (model prog w) _ _ s "BaseException.__getattribute__" "BaseException" "__getattribute__" (.ref x) [.str name tk] [] _ k1 k2 isB (PySem.F.args_bexc_ga (.ref x) (.str name tk)) ?_)
 exact h
theorem x_cget{R:Result→Shared→Prop}{tp:Value}(kin:K.In s.heap)(L0:Looks (model prog w) s.heap (typeOf (.ref x)) (.ref C))(mo:mroIn K C (.type "object")=some true)(fin:R (.ok (.ret (.ref C))) s):
  codeAny (model prog w) A (.call (.builtin "getset_descriptor.__get__") ⟨[.builtin "object.__class__",.ref x,tp],[]⟩) R s:=by
 obtain ⟨hh,g,d,t,os⟩:=s
 have L1:=looks_mroIn (M:=model prog w) kin mo
 refine codeAny_call_builtin (id KF.slot_gs.plain) (id KF.entry_gs) (KF.slot_gs.check _ _ _ _ _ _ _ _ (id KF.type_class) (id (KF.args_gs _ _ _)) ?_)
 show wpAny (model prog w) A.in1 (descrGet _) _ _ _
 unfold descrGet
 rw [dga_obj]
 refine wpAny_bind (wpAny_pure ?_)
 simp only [descrGetter,descrCheckInstance,descrNameAndClass,isInstance,KF.owner_class]
 (repeat lk)
 refine ⟨Code.quiet_builtin _ (id (by decide+kernel)),codeAny_builtin (id KF.entry_class) ?_⟩
 simp only [Builtin.«object.__class__»,shownTypeOf]
 (repeat lk)
 exact fin
theorem x_class{Q:Option Value→Shared→Prop}(c:XCls K C)(kin:K.In s.heap)(L0:Looks (model prog w) s.heap (typeOf (.ref x)) (.ref C))
  (fc:findIn K (.ref C) "__class__"=some (some (.builtin "object.__class__"))) (fg:specialIn K (.builtin "object.__class__") "__get__"=some (some (.builtin "getset_descriptor.__get__"))) (ft:takesIn K (.builtin "object.__class__")=some true)
  (mo:mroIn K C (.type "object")=some true) (h:Q (some (.ref C)) { s with toks:=s.toks+1 }):
  wpAny (model prog w) A (getAttr? (.ref x) "__class__") Q E s:=by
 have Lf:Looks (model prog w) s.heap (find (.ref x) (.ref C) "__class__") (.bind (.builtin "getset_descriptor.__get__") (.builtin "object.__class__")):=by
  refine (looks_findIn kin fc).andThen ((show Looks (model prog w) s.heap (getOf (some (.builtin "object.__class__"))) _ from looks_specialIn kin fg).andThen ?_)
  exact (show Looks (model prog w) s.heap (dataDescriptor? (some (.builtin "object.__class__")) (some (.builtin "getset_descriptor.__get__"))) (some (.builtin "getset_descriptor.__get__",.builtin "object.__class__")) from (looks_takesIn kin ft).andThen .now).andThen (Looks.tag .now)
 refine wpAny_bind (wpAny_mkText (wpAny_bind (wpAny_attempt (x_by (s:= { s with toks:=s.toks+1 }) c kin L0 (x_call (s:= { s with toks:=s.toks+1 }) c kin L0 (x_entry (s:= { s with toks:=s.toks+1 }) L0 Lf ?_))))))
 show wpAny _ _ (holding [Value.builtin "object.__class__"] (call (.builtin "getset_descriptor.__get__") [.builtin "object.__class__",.ref x,.ref C]) >>= ret) _ _ _
 exact wpAny_bind (wpAny_holding (wpAny_call (x_cget (s:= { s with toks:=s.toks+1 }) kin L0 mo (wpAny_pure ⟨rfl,wpAny_pure h⟩))))
end
end L2
namespace L2
open PySem PySem.Spec PyProof.Rows PySem.W PySem.Builtin PySem.Builtin.ObjectAttr
section
variable {prog:Program} {w:World} {A:Around} {E:Value→Shared→Prop} {h:Heap} {g:Array GenState} {d:Drawn} {t:Nat} {os:OsState}
variable {nm q:Str} {C N fI:Addr} {bs bm bmB bmN us:List Value} {hdct:Bool} {sn:List Str} {sub:List Value} {ab:Bool} {col:Option Bool} {dd:Option Addr} {k0 k1 k2 k3 k5:Option Value} {B Bn newId nid initId inN:String} {oI:Obj}
end
section
variable {prog:Program} {w:World} {A:Around} {E:Value→Shared→Prop} {K:Frag} {x C:Addr} {ox:Obj} {name:Str} {tk:Tok} {v:Value} {s:Shared}
end
end L2
namespace L2
open PySem PySem.Spec PyProof.Rows PySem.W
section
variable {X:Cx} {pins:List (Addr×Obj)} {σ:St} {H:Hp} {s:Shared} {a C dx fI:Addr} {f:Str} {y:V} {u:Value} {A:Around} {E:Value→Shared→Prop}
end
section
variable {X:Cx} {o value:Expr} {f:Str} {pos pos':Pos} {ta tv:TE}
end
section
variable {X:Cx} {C fI:Addr} {fd:FuncData} {ps:List Str} {f x:Str} {e:Expr} {pos p apos:Pos} {ta:TA}
end
end L2
namespace L2
open PySem PySem.Spec PyProof.Rows
section
variable {X:Cx} {pins:List (Addr×Obj)} {σ:St} {H:Hp} {s:Shared} {a:Addr} {kvs:List (Key×V)}
theorem Inv.frz(I:Inv X pins σ H s)(e:H a=some (.dK kvs)):∃ o,Inv X pins σ (upd H a (.frz o (.dK kvs))) s:=by
 obtain ⟨z,y,vs,r,o,es,ep,ho,rest⟩:=(show ObjOk X.prog X.w H s.heap a (.dK kvs) from I.hok a _ e)
 refine ⟨o,?_⟩
 have un:Un X.fs [] H (upd H a (.frz o (.dK kvs))) s.heap s.heap:=by
  refine ⟨fun b u q _ _ _=>q,fun b u q _ _ _=>⟨u.slots,q⟩,fun b u q n _=>?_,fun b u q _=>⟨u,q⟩,fun b xs q=>?_,fun b u v q=>?_,fun b ps q=>⟨#[],?_⟩⟩
  ·have:b≠a:=fun w=>by subst w;rw [n] at e;cases e
   rw [upd_ne this];exact n
  ·have:b≠a:=ne_of q e (by intro w;cases w)
   rw [upd_ne this];exact q
  ·have:b≠a:=ne_of q e (by intro w;cases w)
   rw [upd_ne this];exact q
  ·have:b≠a:=ne_of q e (by intro w;cases w)
   rw [upd_ne this,q];simp
 have hok:HOk X.prog X.w (upd H a (.frz o (.dK kvs))) s.heap:=fun b u q=>by
  by_cases hb:b=a
  ·subst hb
   rw [upd_same] at q
   cases q
   exact ⟨ho,z,y,vs,r,o,es,ep,ho,rest⟩
  ·rw [upd_ne hb] at q
   refine (I.hok b u q).stay (fun _ _ _ w=>w) (fun c w=>?_) fun c xs w=>?_
   ·have:c≠a:=ne_of w e (by intro w;cases w)
    rw [upd_ne this];exact w
   ·have:c≠a:=ne_of w e (by intro w;cases w)
    rw [upd_ne this];exact w
 exact I.un (t':=s.toks) un hok
def tFz(t:TE):TE:=fun σ H Q=>t σ H fun v H1=>Q v H1∨∃ a kvs,H1 a=some (.dK kvs)∧∀ o,Q v (upd H1 a (.frz o (.dK kvs)))
theorem pe_fz{e:Expr}{t:TE}(h:PE X e t):PE X e (tFz t):=fun pins s σ H Q I q=>
 thn (h pins s σ H _ I q) fun u s1 ⟨v,H1,I1,rv,q1⟩=>by
  rcases q1 with q1 | ⟨a,kvs,ea,q1⟩
  ·exact ⟨v,H1,I1,rv,q1⟩
  ·obtain ⟨o,I2⟩:=I1.frz ea
   exact ⟨v,_,I2,rv,q1 o⟩
end
def Itd(a:Addr)(o:Obj)(kvs:List (Key×V)):It:=
 ⟨fun i H=>H a=some (.frz o (.dK kvs))∧i<kvs.length,fun i H x H'=>H'=H∧∃ k v,kvs[i]? =some (k,v)∧x=kV k,fun i H=>H a=some (.frz o (.dK kvs))∧kvs.length≤i⟩
theorem kV_of{P:Program}{w:World}{k:Key}{u:Value}(h:(mixKind P w).is k u=true):RelV (kV k) u:=by
 rw [mixKind_is] at h
 rcases keyIs_shape h with ⟨i,t,rfl,rfl⟩ | ⟨x,t,rfl,rfl⟩
 ·exact ⟨t,rfl⟩
 ·exact ⟨t,rfl⟩
theorem KV.at{kvs:List (Key×V)}{vs:List (Key×Value)}(r:KV kvs vs){i:Nat}{k:Key}{v:V}(e:kvs[i]? =some (k,v)):∃ u,vs[i]? =some (k,u):=by
 unfold KV at r
 induction r generalizing i with
 | nil=>simp at e
 | @cons p q ps qs h t ih=>
  cases i with
  | zero=>
   simp at e
   subst e
   exact ⟨q.2,by simp [show k=q.1 from h.1]⟩
  | succ i=>exact ih (by simpa using e)
theorem frz_at{P:Program}{w:World}{H:Hp}{h:Heap}{a:Addr}{o:Obj}{es:Array DictEntry}{ep:Nat}{kvs:List (Key×V)}(ed:o.data= .dict es ep)(ok:HOk P w H h)(e:H a=some (.frz o (.dK kvs))):
  (a==sysModules)=false∧∃ vs,KV kvs vs∧h.DictAt (mixKind P w) a vs ep:=by
 obtain ⟨ho,_,y,vs,r,o',es',ep',ho',c1,c2,rest⟩:=(show ObjOk P w H h a (.frz o (.dK kvs)) from ok a _ e)
 rw [ho] at ho'
 cases ho'
 rw [ed] at c2
 cases c2
 exact ⟨y,vs,r,o,es,ho,c1,ed,rest⟩
theorem turn_dict{P:Program}{w:World}{K:PySem.W.Frag}{tg:Expr}(a it:Addr)(o:Obj){es:Array DictEntry}{ep:Nat}(kvs:List (Key×V))(ed:o.data= .dict es ep):
  Turn P w K tg (Itd a o kvs) [it] it (fun i h=>h.IsKeyIter it a i kvs.length ep) where
 mem:=by simp
 obj:=fun i h st b hb=>by
  have e:b=it:=by simpa using hb
  subst e
  obtain ⟨q,e,c,d⟩:=st
  exact ⟨q,e,fun v z=>by rw [d] at z;cases z⟩
 keep:=fun i h h' st k=>st.at fun q e=>k it (by simp) q e
 item:=by
  intro X hP hw hK hc i pins s σ H E I hf st hg
  subst hP hw hK
  obtain ⟨ea,hi⟩:=hg
  obtain ⟨_,vs,r,dd⟩:=frz_at ed I.hok ea
  obtain ⟨⟨k,v⟩,hx⟩:∃ p,kvs[i]? =some p:=⟨kvs[i],by simp [hi]⟩
  obtain ⟨u,hu⟩:=r.at hx
  obtain ⟨f0,f1,f2,f3,f4,f5⟩:=hf it (by simp)
  have hl:=r.length
  rw [hl] at st ⊢
  refine wpAny_pyNext_dict_item st dd hu fun key h' hkey st' sb=>?_
  have I1:Inv X pins σ H { s with heap:=h' }:=I.turned (t':=s.toks) (fun b q hb e=>(sb.2 b hb).trans e) f0 f1 f3 f4 f5
  exact ⟨key,rfl,letGo_keyiter st' ⟨kV k,H,I1,kV_of hkey,⟨rfl,k,v,hx,rfl⟩,st',fun b hb=>(hf b hb).1⟩⟩
 done:=by
  intro X hP hw hK hc i pins s σ H E I hf st hg
  subst hP hw hK
  obtain ⟨ea,hi⟩:=hg
  obtain ⟨_,vs,r,dd⟩:=frz_at ed I.hok ea
  obtain ⟨f0,f1,f2,f3,f4,f5⟩:=hf it (by simp)
  have hl:=r.length
  rw [hl] at st hi
  exact wpAny_pyNext_dict_end (I.ok.hd hc) st dd (by simp;omega) fun h' eb=>⟨rfl,I.turned (t':=s.toks) (fun b q hb e=>eb b q hb e) f0 f1 f3 f4 f5⟩
 self:=fun _ _ _ _ _ st h=>wpAny_pyIter_keyiter st h
def iDct(tl:TE):TI:=fun σ H R=>tl σ H fun x H1=>∃ a o kvs,x= .ref a∧H1 a=some (.frz o (.dK kvs))∧R (Itd a o kvs) H1
theorem pi_dict{X:Cx}{tg l:Expr}{tl:TE}(hl:PE X l tl):PI X tg l (iDct tl):=by
 intro pins s σ H R I h
 refine thn (hl pins s σ H _ I h) fun v s1 ⟨x,H1,I1,r1,q1⟩=>?_
 obtain ⟨a,o,kvs,e,ea,q⟩:=q1
 subst e
 cases r1
 obtain ⟨es,ep,ed⟩:∃ es ep,o.data= .dict es ep:=by
  obtain ⟨ho,_,_,_,_,o',es,ep,ho',_,c2,_⟩:=(show ObjOk X.prog X.w H1 s1.heap a (.frz o (.dK kvs)) from I1.hok a _ ea)
  rw [ho] at ho'
  cases ho'
  exact ⟨es,ep,c2⟩
 obtain ⟨sm,vs,r,dd⟩:=frz_at ed I1.hok ea
 refine wpAny_pyIter_dict sm dd ?_
 refine ⟨s1.heap.objs.size,[s1.heap.objs.size],_,_,H1,rfl,I1.kept (t':=s1.toks) fun b q e=>Heap.get?_push_of_some _ e,turn_dict a _ o kvs ed,⟨_,Heap.get?_push_size _ rfl,rfl,by rw [r.length];rfl⟩,fun b hb=>?_,q⟩
 have e:b=s1.heap.objs.size:=by simpa using hb
 subst e
 exact I1.fpOk (Nat.le_refl _) (I1.hok.fresh (Nat.le_refl _))
end L2
namespace L2
open PySem PySem.Spec PyProof.Rows
def ViewO(v d:Addr):HO:=.ext fun h=>h.IsValuesView v d
theorem KV.vals{kvs:List (Key×V)}{vs:List (Key×Value)}(r:KV kvs vs):Vals (kvs.map (·.2)) (vs.map (·.2)):=by
 unfold KV at r
 induction r with
 | nil=>exact .nil
 | cons h t ih=>exact .cons h.2 ih
def tVals(td:TE):TE:=fun σ H Q=>td σ H fun x H1=>∃ a kvs,x= .ref a∧Rd H1 a (.dK kvs)∧∀ v,H1 v=none→Q (.ref v) (upd H1 v (ViewO v a))
section
variable {X:Cx} {o:Expr} {td:TE} {apos cpos:Pos}
theorem pe_vals(ho:PE X o td)(hbase:attributeBase o "values" X.env (eval o X.env)=eval o X.env:=by rfl)(hline:(apos.endLine==cpos.line)=true:=by rfl):PE X (.Call (.Attribute o "values" apos) [] [] cpos) (tVals td):=by
 intro pins s σ H Q I h
 refine wpAny_Call_method0_late hbase hline (thn (ho pins s σ H _ I h) fun u s1 ⟨x,H1,I1,r1,a,kvs,ex,rd,q⟩=>?_)
 subst ex
 obtain rfl:u=Value.ref a:=r1
 obtain ⟨t1,t2,_⟩:=isD_at I1 (.inl ⟨kvs,rd⟩)
 obtain ⟨_,sm,vs,r,dd⟩:=dk_rd I1.hok rd
 refine ⟨"dict","dict.values",PySem.F.plainAttrs_dict,PySem.F.slot_dict_values,PySem.F.type_dict_values,t1,t2,Calls.callWith_builtin rfl (PySem.evalArgs_none ?_)⟩
 refine call_meetsIn PySem.F.slot_dict_values t1 PySem.F.entry_dict_values (PySem.F.args_dict_values_1 _) (meets_dict_values (mixKind X.prog X.w) a sm) ⟨⟨vs,dd⟩,?_⟩
 have e1:(s1.heap.push { cls:=.type "dict_values",data:=.fields #[.ref a] }).get? s1.heap.objs.size=some { cls:=.type "dict_values",data:=.fields #[.ref a] }:=Heap.get?_push_size _ rfl
 exact ⟨.ref _,_,I1.laid (a:=s1.heap.objs.size) (o:=ViewO s1.heap.objs.size a) (t':=s1.toks) (fun b w z=>Heap.get?_push_of_some _ z) (Nat.le_refl _)
  ⟨⟨_,e1,rfl,rfl⟩,⟨_,e1⟩,fun h1 h2 ⟨w,z,c⟩ k=>⟨w,k w z,c⟩⟩,rfl,q _ (I1.hok.fresh (Nat.le_refl _))⟩
theorem call_listV(hc:X.calm=true):CallR X (.type "list") (fun xs H Q=>∃ v d kvs,xs= [.ref v]∧H v=some (ViewO v d)∧Rd H d (.dK kvs)∧∀ p,H p=none→Q (.ref p) (upd H p (.lst (kvs.map (·.2))))):=by
 intro pins s σ H xs us Q I r h
 obtain ⟨v,d,kvs,rfl,ev,rd,q⟩:=h
 obtain ⟨u,rfl,ru⟩:=r.one
 cases (show u=Value.ref v from ru)
 obtain ⟨hz,sm,vs,rk,dd⟩:=dk_rd I.hok rd
 obtain ⟨hv,_,_⟩:=(show ObjOk X.prog X.w H s.heap v (ViewO v d) from I.hok v _ ev)
 obtain ⟨ep,da⟩:=dd.dictAt
 refine PySem.W.kdl_call (PySem.W.kdl_values (knd:=mixKind X.prog X.w) (kvs:=vs) (ep:=ep)) (I.ok.hd hc) ⟨hv,da⟩ (by rw [← rk.length];exact hz) fun h' tk acc' c' hk hl ha=>?_
 have el:acc'.toList=vs.map (·.2):=by
  refine List.ext_getElem? fun j=>?_
  rw [List.getElem?_map]
  by_cases hj:j<vs.length
  ·have hj':j<acc'.size:=by rw [ha.1];exact hj
   obtain ⟨k,e⟩:=ha.2 j acc'[j] (Array.getElem?_eq_getElem hj')
   rw [e]
   simp [hj']
  ·have hj':¬ j<acc'.size:=by rw [ha.1];exact hj
   rw [List.getElem?_eq_none (by simpa using hj'),List.getElem?_eq_none (by simpa using hj)];rfl
 refine ⟨.ref _,_,I.laid (a:=s.heap.objs.size) (o:=.lst (kvs.map (·.2))) (t':=tk) hk (Nat.le_refl _) ⟨by rw [List.length_map];exact hz,acc'.toList,c',by rw [el];exact rk.vals,by simpa using hl⟩,rfl,q _ (I.hok.fresh (Nat.le_refl _))⟩
end
end L2
namespace L2
open PySem PySem.Spec PyProof.Rows
section
variable {P:Program} {w:World}
def EqM(P:Program)(w:World)(A:Around)(s:Shared)(y x:Value):Prop:=
 ∀ (E:Value→Shared→Prop) (Q:Bool→Shared→Prop),Q true s→wpAny (model P w) A (eqBool y x) Q E s
theorem eqM_self{A:Around}{s:Shared}(y:Value):EqM P w A s y y:=fun E Q q=>SeqAt.EqAt.same y P w E Q q
theorem eqM_refs{A:Around}{s:Shared}{p q:Addr}(h:p≠q→∀ (E Q:Value→Shared→Prop),Q (.bool true) s→wpAny (model P w) A (richCompare .Eq (.ref p) (.ref q)) Q E s):EqM P w A s (.ref p) (.ref q):=by
 by_cases hpq:p=q
 ·rw [hpq];exact eqM_self _
 ·intro E Q k
  unfold eqBool
  exact wpAny_holding (wpAny_ite_split (fun z=>(hpq (Value.ref.inj (eq_of_beq z))).elim) fun _=>wpAny_bind (h hpq E _ (wpAny_truthy_bool k)))
theorem same_loop{p q:Addr}{us vs:Array Value}{n1 n2:Nat}(hz:us.size=vs.size){c:Int}{ans:Bool}(hc:(c=2∧ans=true)∨(c=3∧ans=false)):∀ k i:Nat,i+k=us.size→
  MeetsIn P w (Builtin.«list.__eq__.loop» ⟨[.ref p,.ref q,rawInt i,rawInt c],[]⟩) (fun A R s=>
   s.heap.get? p=some { cls:=.type "list",data:=.seq us n1 }∧s.heap.get? q=some { cls:=.type "list",data:=.seq vs n2 }∧
   (∀ j (j1:j<us.size) (j2:j<vs.size),EqM P w A.in1 s us[j] vs[j])∧R (.ok (.ret (.bool ans))) s):=by
 intro k
 induction k with
 | zero=>
  intro i ei A R s ⟨g1,g2,_,r⟩
  obtain ⟨hp,gl,dd,tk,os⟩:=s
  have z1:us[((i:Nat):Int).toNat]? =none:=by simp;omega
  have z2:vs[((i:Nat):Int).toNat]? =none:=by simp;omega
  rcases hc with ⟨rfl,rfl⟩ | ⟨rfl,rfl⟩
  all_goals
   wp_walk using AutoSeq1.wpAny_loadPart' g1,AutoSeq1.wpAny_loadPart' g2
   rw [z1,z2]
   wp_walk using AutoSeq1.wpAny_loadPart' g1,AutoSeq1.wpAny_loadPart' g2
  ·show R (.ok (.ret (.bool (us.size==vs.size)))) _
   rw [hz,beq_self_eq_true];exact r
  ·show R (.ok (.ret (.bool (us.size !=vs.size)))) _
   rw [hz,bne_self_eq_false];exact r
 | succ k ih=>
  intro i ei A R s ⟨g1,g2,al,r⟩
  have i1:i<us.size:=by omega
  have i2:i<vs.size:=by omega
  have nx:=ih (i+1) (by omega) A R s ⟨g1,g2,al,r⟩
  obtain ⟨hp,gl,dd,tk,os⟩:=s
  have z1:us[((i:Nat):Int).toNat]? =some us[i]:=by simp [i1]
  have z2:vs[((i:Nat):Int).toNat]? =some vs[i]:=by simp [i2]
  have zz:((i:Int)+1)=((i+1:Nat):Int):=by omega
  rcases hc with ⟨rfl,rfl⟩ | ⟨rfl,rfl⟩
  all_goals
   wp_walk using AutoSeq1.wpAny_loadPart' g1,AutoSeq1.wpAny_loadPart' g2
   rw [z1,z2]
   refine wpAny_bind (al i i1 i2 _ _ ?_)
   wp_walk
   rw [zz]
   exact ⟨plainId_quiet MeetsSeq3.plain_eq_loop _,codeAny_builtin MeetsSeq3.entry_eq_loop (by rw [Around.under_plainId MeetsSeq3.plain_eq_loop _];exact nx)⟩
theorem same_lists{A:Around}{E Q:Value→Shared→Prop}{s:Shared}{p q:Addr}{us vs:Array Value}{n1 n2:Nat}(g1:s.heap.get? p=some { cls:=.type "list",data:=.seq us n1 })(g2:s.heap.get? q=some { cls:=.type "list",data:=.seq vs n2 })
  (hz:us.size=vs.size) (al:∀ j (j1:j<us.size) (j2:j<vs.size),EqM P w A.in1 s us[j] vs[j]) (hu:A.units<cLine) (r:Q (.bool true) s):wpAny (model P w) A (richCompare .Eq (.ref p) (.ref q)) Q E s:=by
 have go:MeetsIn P w (Builtin.«list.__eq__» ⟨[.ref p,.ref q],[]⟩) (fun A R s=>
   s.heap.get? p=some { cls:=.type "list",data:=.seq us n1 }∧s.heap.get? q=some { cls:=.type "list",data:=.seq vs n2 }∧
   (∀ j (j1:j<us.size) (j2:j<vs.size),EqM P w A.in1 s us[j] vs[j])∧R (.ok (.ret (.bool true))) s):=by
  intro A R s k
  have nx:=same_loop (P:=P) (w:=w) (p:=p) (q:=q) (n1:=n1) (n2:=n2) hz (c:=2) (ans:=true) (.inl ⟨rfl,rfl⟩) us.size 0 (by omega) A R s k
  obtain ⟨g1,g2,_⟩:=k
  obtain ⟨hp,gl,dd,tk,os⟩:=s
  have f3:=AutoSeq1.sub_list_list
  have nz:¬ (us.size !=vs.size)=true:=by simp [hz]
  wp_walk using AutoSeq1.wpAny_loadPart' g1,AutoSeq1.wpAny_loadPart' g2
  exact ⟨plainId_quiet MeetsSeq3.plain_eq_loop _,codeAny_builtin MeetsSeq3.entry_eq_loop (by rw [Around.under_plainId MeetsSeq3.plain_eq_loop _];exact nx)⟩
 exact wpAny_richCompare_same_room (T:="list") ⟨_,g1,rfl⟩ ⟨_,g2,rfl⟩ F.slot_list_eq (call_meetsIn F.slot_list_eq ⟨_,g1,rfl⟩ F.entry_list_eq (F.args_list_eq_2 _ _) go ⟨g1,g2,al,show _≠_∧_ from ⟨(fun z=>nomatch z),r⟩⟩) hu
theorem same_listsN{A:Around}{E Q:Value→Shared→Prop}{s:Shared}{p q:Addr}{us vs:Array Value}{n1 n2:Nat}(g1:s.heap.get? p=some { cls:=.type "list",data:=.seq us n1 })(g2:s.heap.get? q=some { cls:=.type "list",data:=.seq vs n2 })
  (hz:us.size=vs.size) (al:∀ j (j1:j<us.size) (j2:j<vs.size),EqM P w A.in1 s us[j] vs[j]) (hu:A.units<cLine) (r:Q (.bool false) s):wpAny (model P w) A (richCompare .NotEq (.ref p) (.ref q)) Q E s:=by
 have go:MeetsIn P w (Builtin.«list.__ne__» ⟨[.ref p,.ref q],[]⟩) (fun A R s=>
   s.heap.get? p=some { cls:=.type "list",data:=.seq us n1 }∧s.heap.get? q=some { cls:=.type "list",data:=.seq vs n2 }∧
   (∀ j (j1:j<us.size) (j2:j<vs.size),EqM P w A.in1 s us[j] vs[j])∧R (.ok (.ret (.bool false))) s):=by
  intro A R s k
  have nx:=same_loop (P:=P) (w:=w) (p:=p) (q:=q) (n1:=n1) (n2:=n2) hz (c:=3) (ans:=false) (.inr ⟨rfl,rfl⟩) us.size 0 (by omega) A R s k
  obtain ⟨g1,g2,_⟩:=k
  obtain ⟨hp,gl,dd,tk,os⟩:=s
  have f3:=AutoSeq1.sub_list_list
  have nz:¬ (us.size !=vs.size)=true:=by simp [hz]
  wp_walk using AutoSeq1.wpAny_loadPart' g1,AutoSeq1.wpAny_loadPart' g2
  exact ⟨plainId_quiet MeetsSeq3.plain_eq_loop _,codeAny_builtin MeetsSeq3.entry_eq_loop (by rw [Around.under_plainId MeetsSeq3.plain_eq_loop _];exact nx)⟩
 exact wpAny_richCompare_same_room (T:="list") ⟨_,g1,rfl⟩ ⟨_,g2,rfl⟩ F.slot_list_ne (call_meetsIn F.slot_list_ne ⟨_,g1,rfl⟩ F.entry_list_ne (F.args_list_ne_2 _ _) go ⟨g1,g2,al,show _≠_∧_ from ⟨(fun z=>nomatch z),r⟩⟩) hu
theorem pairs_at{K:Type}[DecidableEq K]{knd:KeyKind P w K}:∀ {es:List DictEntry} {kvs:List (K×Value)},Pairs knd es kvs→∀ {i:Nat} {k:K} {v:Value},kvs[i]? =some (k,v)→∃ e,es[i]? =some e∧knd.is k e.key=true∧e.val=v
 | _,_,.nil,_,_,_,z=>by simp at z
 | _,_,.cons a b c,0,_,_,z=>by simp at z;subst z;exact ⟨_,rfl,a,b⟩
 | _,_,.cons a b c,i+1,_,_,z=>by
  obtain ⟨e,h⟩:=pairs_at c (i:=i) (by simpa using z)
  exact ⟨e,by simpa using h.1,h.2⟩
theorem pairs_key{K:Type}[DecidableEq K]{knd:KeyKind P w K}:∀ {es:List DictEntry} {kvs:List (K×Value)},Pairs knd es kvs→∀ {i:Nat} {e:DictEntry},es[i]? =some e→∃ k v,kvs[i]? =some (k,v)∧knd.is k e.key=true∧e.val=v
 | _,_,.nil,_,_,z=>by simp at z
 | _,_,.cons a b c,0,_,z=>by simp at z;subst z;exact ⟨_,_,rfl,a,b⟩
 | _,_,.cons a b c,i+1,_,z=>by
  obtain ⟨k,v,h⟩:=pairs_key c (i:=i) (by simpa using z)
  exact ⟨k,v,by simpa using h.1,h.2⟩
theorem pairs_find{K:Type}[DecidableEq K]{knd:KeyKind P w K}{es:Array DictEntry}{kvs:List (K×Value)}(h:Pairs knd es.toList kvs)(nd:(kvs.map (·.1)).Nodup){i:Nat}{k:K}{v:Value}(e:kvs[i]? =some (k,v)):
  (es.findIdx? fun x=>knd.is k x.key)=some i:=by
 obtain ⟨x,ex,kx,_⟩:=pairs_at h e
 rw [Array.getElem?_toList] at ex
 have li:i<es.size:=by
  rcases Nat.lt_or_ge i es.size with z | z
  ·exact z
  ·rw [Array.getElem?_eq_none z] at ex;cases ex
 refine Array.findIdx?_eq_some_iff_getElem.mpr ⟨li,?_,fun j hj=>?_⟩
 ·rw [Array.getElem?_eq_getElem li] at ex
  cases ex
  exact kx
 ·intro yes
  have lj:j<es.size:=by omega
  obtain ⟨k2,v2,e2,kk,_⟩:=pairs_key h (i:=j) (e:=es[j]) (by rw [Array.getElem?_toList,Array.getElem?_eq_getElem lj])
  have same:k2=k:=knd.inj _ _ _ kk yes
  have m1:(kvs.map (·.1))[i]? =some k:=by rw [List.getElem?_map,e];rfl
  have m2:(kvs.map (·.1))[j]? =some k:=by rw [List.getElem?_map,e2,same];rfl
  have l1:i<(kvs.map (·.1)).length:=by rw [List.length_map,← h.length];simpa using li
  have l2:j<(kvs.map (·.1)).length:=by rw [List.length_map,← h.length];simpa using lj
  rw [List.getElem?_eq_getElem l1,Option.some.injEq] at m1
  rw [List.getElem?_eq_getElem l2,Option.some.injEq] at m2
  have:=(List.getElem_inj nd).mp (m1.trans m2.symm)
  omega
theorem same_pairs{A:Around}{E:Value→Shared→Prop}{s:Shared}{nm:String}{p q:Addr}{K:Type}[DecidableEq K]{knd:KeyKind P w K}{kp kq:List (K×Value)}{Q:Bool→Shared→Prop}(np:(p==sysModules)=false)(nq:(q==sysModules)=false)
  (dp:s.heap.DictOf knd p kp) (dq:s.heap.DictOf knd q kq) (hk:kp.map (·.1)=kq.map (·.1)) (al:∀ (i:Nat) (k:K) (v u:Value),kp[i]? =some (k,v)→kq[i]? =some (k,u)→EqM P w A s v u) (r:Q true s):
  wpAny (model P w) A (Builtin.Dict.samePairs nm p q) Q E s:=by
 obtain ⟨o1,x1,c1,g1,_,d1,y1,pr1,_⟩:=dp
 obtain ⟨o2,x2,c2,g2,_,d2,y2,pr2,nd2⟩:=dq
 have lk:kp.length=kq.length:=by have:=congrArg List.length hk;simpa using this
 have l1:x1.size=kp.length:=by rw [← pr1.length];simp
 have l2:x2.size=kq.length:=by rw [← pr2.length];simp
 have lz:x1.size=x2.size:=by omega
 unfold Builtin.Dict.samePairs Builtin.Dict.showsAll
 simp only [np,nq,Bool.false_eq_true,if_false]
 refine wpAny_bind (wpAny_pure (wpAny_bind (wpAny_pure (wpAny_bind (wpAny_dictEntries g1 d1 (wpAny_bind (wpAny_dictEntries g2 d2 ?_)))))))
 rw [if_neg (by simp [lz])]
 refine wpAny_bind (wpAny_dictEpoch g1 d1 (wpAny_bind ?_))
 rw [Std.Legacy.Range.forIn_eq_forIn_range']
 simp only [Std.Legacy.Range.size,Nat.sub_zero,Nat.add_sub_cancel,Nat.div_one]
 refine wpAny_forIn_list _ (fun left st t=>t=s∧st=(none,())∧∃ i,left=List.range' i (x1.size - i)) _ ?_ ?_ _ _ ⟨rfl,rfl,0,by simp⟩
 ·rintro x left st t ⟨rfl,rfl,i,el⟩
  have hi:i<x1.size:=by
   refine Nat.lt_of_not_le fun z=>?_
   rw [Nat.sub_eq_zero_of_le z] at el;simp at el
  have e2:x1.size - i=(x1.size - (i+1))+1:=by omega
  rw [e2,List.range'_succ,List.cons.injEq] at el
  obtain ⟨rfl,el⟩:=el
  have hp:x<kp.length:=by omega
  have hq:x<kq.length:=by omega
  obtain ⟨⟨k,v⟩,ekv⟩:∃ kv,kp[x]? =some kv:=⟨_,List.getElem?_eq_getElem hp⟩
  obtain ⟨⟨k',u⟩,eku⟩:∃ kv,kq[x]? =some kv:=⟨_,List.getElem?_eq_getElem hq⟩
  have ek:k'=k:=by
   have z:=congrArg (fun l=>l[x]?) hk
   simp only [List.getElem?_map,ekv,eku] at z
   exact (Option.some.inj z).symm
  subst ek
  obtain ⟨en,een,key1,val1⟩:=pairs_at pr1 ekv
  obtain ⟨en2,een2,key2,val2⟩:=pairs_at pr2 eku
  rw [Array.getElem?_toList] at een een2
  obtain ⟨k0,key0,hsh⟩:=y1 en (Array.mem_of_getElem? een)
  obtain rfl:k0=k':=knd.inj _ _ _ key0 key1
  refine wpAny_bind (wpAny_dictEntries g1 d1 ?_)
  rw [een]
  show wpAny _ _ (holding [en.key,en.val] _ >>= _) _ _ _
  rw [hsh]
  refine wpAny_bind (wpAny_holding (wpAny_bind (wpAny_dictFind_of key1 g2 d2 y2 ?_)))
  rw [pairs_find pr2 nd2 eku]
  refine wpAny_bind (wpAny_dictEntries g2 d2 ?_)
  rw [een2]
  subst val1 val2
  refine wpAny_holding (al x _ _ _ ekv eku _ _ ?_)
  show wpAny _ _ (if (!true)=true then _ else _) _ _ _
  rw [if_neg (by decide)]
  refine wpAny_bind (wpAny_dictEpoch g1 d1 ?_)
  rw [if_neg (by simp)]
  exact wpAny_pure ⟨rfl,rfl,x+1,el⟩
 ·rintro st t ⟨rfl,rfl,i,_⟩
  exact wpAny_pure r
theorem same_dicts{A:Around}{E Q:Value→Shared→Prop}{s:Shared}{p q:Addr}{K:Type}[DecidableEq K]{knd:KeyKind P w K}{kp kq:List (K×Value)}(np:(p==sysModules)=false)(nq:(q==sysModules)=false)
  (dp:s.heap.DictOf knd p kp) (dq:s.heap.DictOf knd q kq) (hk:kp.map (·.1)=kq.map (·.1)) (al:∀ (i:Nat) (k:K) (v u:Value),kp[i]? =some (k,v)→kq[i]? =some (k,u)→EqM P w A.in1 s v u) (hu:A.units<cLine) (r:Q (.bool true) s):
  wpAny (model P w) A (richCompare .Eq (.ref p) (.ref q)) Q E s:=by
 refine wpAny_richCompare_same_room (op:=.Eq) dp.typeIs dq.typeIs F.slot_dict_eq (wpAny_call_entry F.slot_dict_eq dp.typeIs F.entry_dict_eq ?_ (F.args_dict_eq_2 _ _)) hu
 show wpAny _ _ (Builtin.Dict.dictSlotArgs "__eq__" _ >>= _) _ _ s
 unfold Builtin.Dict.dictSlotArgs
 refine wpAny_bind (wpAny_bind (wpAny_notOrdered_dict dp.typeIs ?_))
 show wpAny _ _ (pure (Value.ref p,Value.ref q)) _ _ s
 refine wpAny_pure (wpAny_bind (wpAny_isInstance (T:="dict") dq.typeIs F.sub_dict_dict ?_))
 simp only [Bool.not_true,Bool.false_eq_true,if_false]
 refine wpAny_bind (wpAny_pure (wpAny_bind (wpAny_pure (wpAny_bind (same_pairs np nq dp dq hk al (wpAny_pure ⟨_,rfl,?_,?_⟩))))))
 ·exact fun z=>nomatch z
 ·simpa using r
end
inductive SameV(H:Hp):Nat→V→V→Prop where
 | flat {n:Nat} {x:V} (f:flatV x=true):SameV H n x x
 | lst {n:Nat} {a b:Addr} {xs ys:List V} (ea:Rd H a (.lst xs)) (eb:Rd H b (.lst ys)) (l:xs.length=ys.length) (r:∀ (i:Nat) (x y:V),xs[i]? =some x→ys[i]? =some y→SameV H n x y):SameV H (n+1) (.ref a) (.ref b)
 | dct {n:Nat} {a b:Addr} {xs ys:List (Key×V)} (ea:Rd H a (.dK xs)) (eb:Rd H b (.dK ys)) (k:xs.map (·.1)=ys.map (·.1)) (r:∀ (i:Nat) (x y:Key×V),xs[i]? =some x→ys[i]? =some y→SameV H n x.2 y.2):SameV H (n+1) (.ref a) (.ref b)
theorem eqV_self{x:V}(f:flatV x=true):eqV x x=true:=by
 cases x<;>simp_all [eqV,flatV]
theorem KV.back{kvs:List (Key×V)}{vs:List (Key×Value)}(r:KV kvs vs):∀ {i:Nat} {k:Key} {u:Value},vs[i]? =some (k,u)→∃ v,kvs[i]? =some (k,v)∧RelV v u:=by
 unfold KV at r
 induction r with
 | nil=>intro i k u e;simp at e
 | @cons p q ps qs h t ih=>
  intro i k u e
  cases i with
  | zero=>
   simp at e
   subst e
   exact ⟨p.2,by rw [List.getElem?_cons_zero];exact congrArg some (Prod.ext h.1 rfl),h.2⟩
  | succ i=>obtain ⟨v,z1,z2⟩:=ih (i:=i) (by simpa using e);exact ⟨v,by simpa using z1,z2⟩
theorem KV.keysE{kvs:List (Key×V)}{vs:List (Key×Value)}(r:KV kvs vs):kvs.map (·.1)=vs.map (·.1):=by
 unfold KV at r
 induction r with
 | nil=>rfl
 | cons h t ih=>simp [ih,h.1]
theorem Vals.back:∀ {xs:List V} {us:List Value} {i:Nat} {u:Value},Vals xs us→us[i]? =some u→∃ x,xs[i]? =some x∧RelV x u
 | _,_,_,_,.nil,e=>by simp at e
 | _,_,0,_,.cons r _,e=>by simp at e;subst e;exact ⟨_,rfl,r⟩
 | _,_,i+1,u,.cons _ t,e=>by
  obtain ⟨x,h1,h2⟩:=Vals.back (i:=i) (u:=u) t (by simpa using e)
  exact ⟨x,by simpa using h1,h2⟩
section
variable {X:Cx} {pins:List (Addr×Obj)} {σ:St} {H:Hp} {s:Shared}
theorem vals_arr{xs:List V}{us:List Value}(r:Vals xs us){j:Nat}(h:j<us.toArray.size):∃ x,xs[j]? =some x∧RelV x us.toArray[j]:=by
 have h':j<us.length:=by simpa using h
 exact r.back (by rw [List.getElem?_eq_getElem h'];simp)
theorem SameV.eqM(I:Inv X pins σ H s):∀ {n:Nat} {x y:V},SameV H n x y→∀ {A:Around} {u v:Value},RelV x u→RelV y v→A.units+n<cLine→EqM X.prog X.w A s u v:=by
 intro n x y h
 induction h with
 | flat f=>
  intro A u v ru rv _ E Q q
  have z:=eqAt_V (A:=A) (s:=s) ru rv f f X.prog X.w E Q
  rw [eqV_self f] at z
  exact z q
 | @lst n a b xs ys ea eb l r ih=>
  intro A u v ru rv hu
  cases ru;cases rv
  obtain ⟨_,its,n1,r1,g1⟩:=(show ObjOk X.prog X.w H s.heap a (.lst xs) from rd_of I.hok ea)
  obtain ⟨_,its2,n2,r2,g2⟩:=(show ObjOk X.prog X.w H s.heap b (.lst ys) from rd_of I.hok eb)
  refine eqM_refs fun _ E Q q=>same_lists g1 g2 (by have:=r1.length;have:=r2.length;simp;omega) (fun j j1 j2=>?_) (by omega) q
  obtain ⟨x,ex,rx⟩:=vals_arr r1 j1
  obtain ⟨y,ey,ry⟩:=vals_arr r2 j2
  exact ih j x y ex ey rx ry (by simp only [Around.in1_units];omega)
 | @dct n a b xs ys ea eb k r ih=>
  intro A u v ru rv hu
  cases ru;cases rv
  obtain ⟨_,m1,vs1,r1,d1⟩:=dk_rd I.hok ea
  obtain ⟨_,m2,vs2,r2,d2⟩:=dk_rd I.hok eb
  refine eqM_refs fun _ E Q q=>same_dicts m1 m2 d1 d2 (by rw [← r1.keysE,← r2.keysE];exact k) (fun j kk v u e1 e2=>?_) (by omega) q
  obtain ⟨x,ex,rx⟩:=r1.back e1
  obtain ⟨y,ey,ry⟩:=r2.back e2
  exact ih j _ _ ex ey rx ry (by simp only [Around.in1_units];omega)
def rSame(K:PySem.W.Frag)(neg:Bool):R2:=fun x y H Q=>∃ p q xs ys,x= .ref p∧y= .ref q∧Rd H p (.lst xs)∧Rd H q (.lst ys)∧
 ((xs.length≠ys.length∧Q (.bl neg) H)∨(xs.length=ys.length∧(∃ n,n≤60∧∀ (i:Nat) (x y:V),xs[i]? =some x→ys[i]? =some y→SameV H n x y)∧Q (.bl (!neg)) H))
theorem op_eqS(hu:X.A.units+64<cLine):OpR X (compareOp .Eq) (rSame X.K false):=by
 intro pins s σ H x y v u Q I rx ry h
 obtain ⟨p,q,xs,ys,rfl,rfl,hp,hq,h⟩:=h
 cases rx;cases ry
 obtain ⟨_,its,n1,r1,g1⟩:=(show ObjOk X.prog X.w H s.heap p (.lst xs) from rd_of I.hok hp)
 obtain ⟨_,its2,n2,r2,g2⟩:=(show ObjOk X.prog X.w H s.heap q (.lst ys) from rd_of I.hok hq)
 have l1:=r1.length
 have l2:=r2.length
 rcases h with ⟨ne,k⟩ | ⟨l,⟨n,hn,al⟩,k⟩
 ·exact SeqAt.RcAt.lists_lengths (items:=its.toArray) (items2:=its2.toArray) ⟨_,g1,rfl,_,rfl⟩ ⟨_,g2,rfl,_,rfl⟩ (by simp;omega) (by omega) _ _ _ _ ⟨.bl _,H,I,rfl,k⟩
 ·refine same_lists g1 g2 (by simp;omega) (fun j j1 j2=>?_) (by omega) ⟨.bl _,H,I,rfl,k⟩
  obtain ⟨x,ex,rx⟩:=vals_arr r1 j1
  obtain ⟨y,ey,ry⟩:=vals_arr r2 j2
  exact (al j x y ex ey).eqM I rx ry (by simp only [Around.in1_units];omega)
theorem op_neS(hu:X.A.units+64<cLine):OpR X (compareOp .NotEq) (rSame X.K true):=by
 intro pins s σ H x y v u Q I rx ry h
 obtain ⟨p,q,xs,ys,rfl,rfl,hp,hq,h⟩:=h
 cases rx;cases ry
 obtain ⟨_,its,n1,r1,g1⟩:=(show ObjOk X.prog X.w H s.heap p (.lst xs) from rd_of I.hok hp)
 obtain ⟨_,its2,n2,r2,g2⟩:=(show ObjOk X.prog X.w H s.heap q (.lst ys) from rd_of I.hok hq)
 have l1:=r1.length
 have l2:=r2.length
 rcases h with ⟨ne,k⟩ | ⟨l,⟨n,hn,al⟩,k⟩
 ·exact SeqAt.RcNeAt.lists_lengths (items:=its.toArray) (items2:=its2.toArray) ⟨_,g1,rfl,_,rfl⟩ ⟨_,g2,rfl,_,rfl⟩ (by simp;omega) (by omega) _ _ _ _ ⟨.bl _,H,I,rfl,k⟩
 ·refine same_listsN g1 g2 (by simp;omega) (fun j j1 j2=>?_) (by omega) ⟨.bl _,H,I,rfl,k⟩
  obtain ⟨x,ex,rx⟩:=vals_arr r1 j1
  obtain ⟨y,ey,ry⟩:=vals_arr r2 j2
  exact (al j x y ex ey).eqM I rx ry (by simp only [Around.in1_units];omega)
end
end L2
namespace L2
open PySem PySem.Spec PyProof.Rows
def sortL(l:List (List Nat)):List (List Nat):=l.mergeSort fun a b=>decide (a≤b)
theorem sortL_perm(l:List (List Nat)):(sortL l).Perm l:=List.mergeSort_perm _ _
theorem sortL_pair(l:List (List Nat)):(sortL l).Pairwise (· ≤ ·):=by
 have:=List.pairwise_mergeSort (le:=fun a b:List Nat=>decide (a≤b)) (fun a b c h1 h2=>by
  simp only [decide_eq_true_eq] at h1 h2 ⊢
  exact List.le_trans h1 h2) (fun a b=>by
  simp only [Bool.or_eq_true,decide_eq_true_eq]
  exact List.le_total a b) l
 exact this.imp fun h=>by simpa using h
theorem rising_pair:∀ (l:List Str) (p:Str),risingS p l=true→((p::l).map (·.cps.toList)).Pairwise (· ≤ ·)
 | [],p,_=>by simp
 | x::r,p,h=>by
  simp only [risingS,Bool.and_eq_true,Bool.not_eq_true',ltCps_eq,decide_eq_false_iff_not] at h
  have ih:=rising_pair r x h.2
  have px:p.cps.toList≤x.cps.toList:=List.not_lt.mp h.1
  rw [List.map_cons,List.pairwise_cons]
  refine ⟨fun y hy=>?_,ih⟩
  rw [List.map_cons,List.mem_cons] at hy
  rw [List.map_cons,List.pairwise_cons] at ih
  rcases hy with rfl | hy
  ·exact px
  ·exact List.le_trans px (ih.1 y hy)
theorem sorted_pair{l:List Str}(h:sortedS l=true):(l.map (·.cps.toList)).Pairwise (· ≤ ·):=by
 cases l with
 | nil=>simp
 | cons x r=>exact rising_pair r x h
theorem sorted_is{l:List Str}{ks:List (List Nat)}(p:(l.map (·.cps.toList)).Perm ks)(h:sortedS l=true):l.map (·.cps.toList)=sortL ks:=
 List.Perm.eq_of_pairwise (fun a b _ _ h1 h2=>List.le_antisymm h1 h2) (sorted_pair h) (sortL_pair ks) (p.trans (sortL_perm ks).symm)
section
variable {X:Cx}
theorem strs_keys{P:Program}{w:World}{vs:List Value}{ks:List (List Nat)}(l:vs.length=ks.length)(h:∀ (j:Nat) (v:Value) (k:List Nat),vs[j]? =some v→ks[j]? =some k→keyIs (.inr ⟨k.toArray⟩) v=true):StrsAre vs (ks.map fun k=>⟨k.toArray⟩):=by
 induction vs generalizing ks with
 | nil=>cases ks with
  | nil=>exact .nil
  | cons _ _=>simp at l
 | cons v r ih=>cases ks with
  | nil=>simp at l
  | cons k ks=>
   rcases keyIs_shape (h 0 v k rfl rfl) with ⟨i,t,e,_⟩ | ⟨x,t,e,rfl⟩
   ·cases e
   ·cases e
    exact .cons _ t (ih (by simpa using l) fun j v k e1 e2=>h (j+1) v k (by simpa using e1) (by simpa using e2))
theorem strs_vals:∀ {vs:List Value} {ss:List Str},StrsAre vs ss→Vals (ss.map V.str) vs
 | _,_,.nil=>.nil
 | _,_,.cons y t r=>.cons ⟨t,rfl⟩ (strs_vals r)
theorem strOf_cps(x:Str):(⟨x.cps.toList.toArray⟩:Str)=x:=by cases x;simp
theorem Inv.laidF{pins:List (Addr×Obj)}{σ:St}{H:Hp}{s:Shared}{h':Heap}{a:Addr}{o:HO}{t':Nat}(I:Inv X pins σ H s)(k:∀ b u,s.heap.get? b=some u→h'.get? b=some u)(hp:s.heap.get? a=none)(new:H a=none→ObjOk X.prog X.w (upd H a o) h' a o):
  H a=none∧Inv X pins σ (upd H a o) { s with heap:=h',toks:=t' }:=by
 have hn:H a=none:=by
  cases q:H a with
  | none=>rfl
  | some u=>
   obtain ⟨ob,e⟩:=(I.hok a u q).there
   rw [hp] at e;cases e
 have ne:∀ b u,s.heap.get? b=some u→b≠a:=fun b u e z=>by rw [z,hp] at e;cases e
 refine ⟨hn,I.un ⟨fun b u q _ _ _=>k b u q,fun b u q _ _ _=>⟨u.slots,k b u q⟩,fun b u q n _=>by rw [upd_ne (ne b u q)];exact n,fun b u q _=>⟨u,k b u q⟩,fun b xs q=>by rw [upd_ne (ne_of_none q hn)];exact q,fun b u xs q=>by rw [upd_ne (ne_of_none q hn)];exact q,fun b ps q=>⟨#[],by rw [upd_ne (ne_of_none q hn),q];simp⟩⟩ fun b u e=>?_⟩
 by_cases hb:b=a
 ·subst hb;rw [upd_same] at e;cases e;exact new hn
 ·rw [upd_ne hb] at e
  exact (I.hok b u e).stay (fun c v _ q=>k c v q) (fun c q=>by rw [upd_ne (ne_of_none q hn)];exact q) fun c xs q=>by rw [upd_ne (ne_of_none q hn)];exact q
theorem call_sorted(hc:X.calm=true):CallR X (.builtin "sorted") (fun xs H Q=>∃ d kvs ks,xs= [.ref d]∧Rd H d (.dK kvs)∧kvs.map (·.1)=ks.map (fun k:List Nat=>(Sum.inr ⟨k.toArray⟩:Key))∧kvs.length<64∧∀ p,H p=none→Q (.ref p) (upd H p (.lst ((sortL ks).map fun k=>V.str ⟨k.toArray⟩)))):=by
 intro pins s σ H xs us Q I r h
 obtain ⟨d,kvs,ks,rfl,rd,ek,h64,q⟩:=h
 obtain ⟨u,rfl,ru⟩:=r.one
 cases (show u=Value.ref d from ru)
 obtain ⟨hz,sm,vs,rk,dd⟩:=dk_rd I.hok rd
 obtain ⟨ep,da⟩:=dd.dictAt
 have lk:kvs.length=ks.length:=by have:=congrArg List.length ek;simpa using this
 have lv:kvs.length=vs.length:=rk.length
 refine Calls.call_function_entry kind_sorted plain_sorted entry_sorted (args_sorted1 _) ?_
 unfold Builtin.«sorted»
 refine wpAny_bind (m:=checkCount "sorted" 1 1 _) (wpAny_pure (wpAny_bind (PySem.W.kdu_collect (PySem.W.kdl_dict (knd:=mixKind X.prog X.w) (kvs:=vs) (ep:=ep) sm) (I.ok.hd hc) da (by omega) fun h1 tk acc k1 ia=>?_)))
 have la:acc.toList.length=vs.length:=by rw [Array.length_toList];exact ia.1
 have hS:StrsAre acc.toList (ks.map fun k=>⟨k.toArray⟩):=strs_keys (P:=X.prog) (w:=X.w) (by omega) fun j v k e1 e2=>by
  obtain ⟨k',x,e3,hk⟩:=ia.2 j v (by rw [← Array.getElem?_toList];exact e1)
  have z:(vs.map (·.1))[j]? =some (Sum.inr ⟨k.toArray⟩):=by rw [← rk.keysE,ek,List.getElem?_map,e2];rfl
  rw [List.getElem?_map,e3] at z
  cases z
  exact hk
 refine wpAny_bind (wpAny_newList ?_ (by omega))
 have ho:(h1.push (seqObj "list" acc.toList.toArray 0)).get? h1.objs.size=some (seqObj "list" acc.toList.toArray 0):=Heap.get?_push_size _ rfl
 have free:s.heap.get? h1.objs.size=none:=by
  cases z:s.heap.get? h1.objs.size with
  | none=>rfl
  | some o=>exact absurd (Heap.lt_size (k1 _ _ z)) (Nat.lt_irrefl _)
 refine wpAny_bind (wpAny_holding (wpAny_call_entry slot_list_sort ⟨_,ho,rfl⟩ entry_list_sort (list_sort_treeK strKind_oneLt ho hS.keysOf (fun v1 v2 rest e=>keyKind_strs (by rw [← e];exact hS)) (by omega) fun st pm so=>⟨_,rfl,?_⟩) (args_list_sort _)))
 obtain ⟨ss,a1,a2,a3⟩:=sorted_out_str hS pm so
 obtain ⟨ev,hat⟩:=sortedHeap_at (out:=(arrOf st).map (·.2)) ho
 have el:ss.map (·.cps.toList)=sortL ks:=sorted_is (by have z:=a2.map (fun x:Str=>x.cps.toList);rw [List.map_map] at z;simpa [Function.comp_def] using z) a3
 have ev2:((sortL ks).map fun k=>V.str ⟨k.toArray⟩)=ss.map V.str:=by
  rw [← el,List.map_map]
  exact List.map_congr_left fun x _=>congrArg V.str (strOf_cps x)
 obtain ⟨hn,I2⟩:=I.laidF (a:=h1.objs.size) (o:=.lst ((sortL ks).map fun k=>V.str ⟨k.toArray⟩)) (t':=tk) (h':=sortedHeap (h1.push (seqObj "list" acc.toList.toArray 0)) h1.objs.size acc.toList ((arrOf st).map (·.2)))
  (fun b o e=>by
   have lt:=Heap.lt_size (k1 b o e)
   rw [sortedHeap_old (Nat.ne_of_lt lt) (by rw [size_push'];exact Nat.lt_succ_of_lt lt)]
   exact Heap.get?_push_of_some _ (k1 b o e)) free fun _=>by
   refine ⟨?_,((arrOf st).map (·.2)).toList,ev,?_,?_⟩
   ·rw [List.length_map,(sortL_perm ks).length_eq];omega
   ·rw [ev2];exact strs_vals a1
   ·rw [hat]
 exact wpAny_pure ⟨_,rfl,.ref _,_,I2,rfl,q _ hn⟩
end
end L2
namespace L2
open PySem PySem.Spec PyProof.Rows
def keyD:Key→PyData
 | .inl i=>.int i
 | .inr x=>.str x
mutual
inductive RdR(H:Hp):V→PyData→Prop where
 | bl (b:Bool):RdR H (.bl b) (.bool b)
 | int (i:Int):RdR H (.int i) (.int i)
 | str (x:Str):RdR H (.str x) (.str x)
 | lst {a:Addr} {xs:List V} {ds:List PyData} (e:Rd H a (.lst xs)) (r:RdRs H xs ds):RdR H (.ref a) (.list ds)
 | dct {a:Addr} {kvs:List (Key×V)} {kds:List (PyData×PyData)} (e:Rd H a (.dK kvs)) (k:kds.map (·.1)=kvs.map (fun p=>keyD p.1)) (r:RdRs H (kvs.map (·.2)) (kds.map (·.2))):RdR H (.ref a) (.dict kds)
inductive RdRs(H:Hp):List V→List PyData→Prop where
 | nil:RdRs H [] []
 | cons {x:V} {d:PyData} {xs:List V} {ds:List PyData} (r:RdR H x d) (t:RdRs H xs ds):RdRs H (x::xs) (d::ds)
end
theorem keys_sh{P:Program}{w:World}{h:Heap}(n:Nat):∀ {ks:List (Key×V)} {us:List Value},Vals (ks.map fun p=>kV p.1) us→PyData.showableAll (ks.map fun p=>keyD p.1)=true→(∀ t∈PyData.shownAll (ks.map fun p=>keyD p.1),t.length≤sizeLine)→
  ∃ as,ReadsAll h us (ks.map fun p=>keyD p.1) as∧ReprAllK P w [] h n us (PyData.shownAll (ks.map fun p=>keyD p.1))
 | [],_,.nil,_,_=>⟨_,.nil,by rw [List.map_nil,PyData.shownAll];exact .nil⟩
 | k::ks,_,.cons r t,q,z=>by
  rw [List.map_cons,PyData.showableAll,Bool.and_eq_true] at q
  rw [List.map_cons,PyData.shownAll] at z ⊢
  obtain ⟨as,i1,i2⟩:=keys_sh n t q.2 fun y hy=>z y (List.mem_cons_of_mem _ hy)
  have z0:=z _ (List.mem_cons_self ..)
  obtain ⟨kk,kv⟩:=k
  cases kk with
  | inl i=>
   obtain ⟨tt,rfl⟩:=(show ∃ t,_=Value.int i t from r)
   exact ⟨_,.cons (.int i tt) i1,.cons (by dsimp only [keyD];rw [PyData.shown];exact .of_is (ReprIs.int tt (by simpa [PyData.showable,keyD] using q.1)) _ _ _) i2⟩
  | inr x=>
   obtain ⟨tt,rfl⟩:=(show ∃ t,_=Value.str x t from r)
   dsimp only [keyD] at z0
   rw [PyData.shown] at z0
   exact ⟨_,.cons (.str x tt) i1,.cons (by dsimp only [keyD];rw [PyData.shown];exact .of_is (ReprIs.str x tt z0) _ _ _) i2⟩
theorem ents_keys{P:Program}{w:World}:∀ {es:List DictEntry} {vs:List (Key×Value)} {kvs:List (Key×V)},Pairs (mixKind P w) es vs→KV kvs vs→Vals (kvs.map fun p=>kV p.1) (es.map (·.key))∧Vals (kvs.map (·.2)) (es.map (·.val))
 | _,_,_,.nil,.nil=>⟨.nil,.nil⟩
 | _,_,_,.cons (e:=e) (kv:=kv) a b c,.cons h t=>by
  obtain ⟨i1,i2⟩:=ents_keys c t
  refine ⟨.cons ?_ i1,.cons ?_ i2⟩
  ·show RelV (kV _) _
   rw [h.1];exact kV_of a
  ·show RelV _ e.val
   rw [b];exact h.2
section
variable {X:Cx} {pins:List (Addr×Obj)} {σ:St} {H:Hp} {s:Shared}
mutual
theorem RdR.sh(I:Inv X pins σ H s):∀ {x:V} {d:PyData} {u:Value},RdR H x d→RelV x u→d.showable=true→d.shown.length≤sizeLine→∃ as bs,Reads s.heap u d as∧ReadAtMost s.heap d.depth bs∧ReprK X.prog X.w bs s.heap d.depth u d.shown
 | _,_,_,.bl b,r,_,_=>by
  cases r
  exact ⟨_,[],.bool b,by simp [ReadAtMost],by rw [PyData.shown];exact .of_is (ReprIs.bool b) _ _ _⟩
 | _,_,_,.int i,r,q,_=>by
  obtain ⟨t,rfl⟩:=r
  exact ⟨_,[],.int i t,by simp [ReadAtMost],by rw [PyData.shown];exact .of_is (ReprIs.int t (by simpa [PyData.showable] using q)) _ _ _⟩
 | _,_,_,.str x,r,_,z=>by
  obtain ⟨t,rfl⟩:=r
  rw [PyData.shown] at z
  exact ⟨_,[],.str x t,by simp [ReadAtMost],by rw [PyData.shown];exact .of_is (ReprIs.str x t z) _ _ _⟩
 | _,_,_,.lst (a:=a) (xs:=xs) (ds:=ds) e rr,r,q,z=>by
  cases r
  obtain ⟨_,its,n,rv,g⟩:=(show ObjOk X.prog X.w H s.heap a (.lst xs) from rd_of I.hok e)
  rw [PyData.showable] at q
  rw [PyData.shown] at z ⊢
  obtain ⟨as,bs,r1,r2,r3⟩:=RdRs.sh I rr rv q fun t ht=>Nat.le_trans (listText_mem_le ht) z
  have whole:Reads s.heap (.ref a) (.list ds) _:=.list g rfl rfl (by simpa using r1)
  rw [PyData.depth]
  have deep:PyData.depthAll ds<(PyData.list ds).depth:=by rw [PyData.depth];omega
  have out:=ReadAtMost.cons whole (Nat.le_of_lt deep) r2
  rw [PyData.depth] at out
  refine ⟨_,a::bs,whole,out,?_⟩
  cases its with
  | nil=>
   cases r1
   rw [PyData.shownAll,listText_nil]
   exact ReprK.listEmpty g rfl rfl
  | cons v vs=>exact ReprK.list g rfl rfl (not_mem_of_deeper whole deep r2) (by simpa using r3.length_eq) fun i y ey=>r3.item i y (by simpa using ey)
 | _,_,_,.dct (a:=a) (kvs:=kvs) (kds:=kds) e k rr,r,q,z=>by
  cases r
  obtain ⟨_,sm,vs,rk,o,es,ep,g,ex,ed,_,pr,_⟩:=dk_rd I.hok e
  rw [PyData.showable] at q
  obtain ⟨q1,q2⟩:=PyData.showableKv_split kds q
  rw [PyData.shown] at z ⊢
  obtain ⟨vk,vv⟩:=ents_keys pr rk
  rw [k] at q1
  obtain ⟨as1,r1,r3⟩:=keys_sh (P:=X.prog) (w:=X.w) (h:=s.heap) (PyData.depthKv kds) vk q1 fun t ht=>by
   rw [← k] at ht
   obtain ⟨p,hp,hl⟩:=PyData.shownKv_key_le kds t ht
   exact Nat.le_trans (Nat.le_trans hl (dictText_mem_le hp)) z
  obtain ⟨as2,bs2,t1,t2,t3⟩:=RdRs.sh I rr vv q2 fun t ht=>by
   obtain ⟨p,hp,hl⟩:=PyData.shownKv_val_le kds t ht
   exact Nat.le_trans (Nat.le_trans hl (dictText_mem_le hp)) z
  rw [← k] at r1 r3
  have whole:Reads s.heap (.ref a) (.dict kds) _:=.dict g ex.1 ed r1 t1
  rw [PyData.depth]
  have deep:PyData.depthKv kds<(PyData.dict kds).depth:=by rw [PyData.depth];omega
  have both:=t2.mono (PyData.depthAll_vals_le kds)
  have out:=ReadAtMost.cons whole (Nat.le_of_lt deep) both
  rw [PyData.depth] at out
  refine ⟨_,a::bs2,whole,out,?_⟩
  rw [PyData.shownKv_eq]
  exact ReprK.dict g ex.1 ed sm (not_mem_of_deeper whole deep both) (.of_two _ _ _ (r3.more_le (fun b hb=>absurd hb List.not_mem_nil) (Nat.le_refl _)) (t3.more_le (fun b hb=>hb) (PyData.depthAll_vals_le kds)))
theorem RdRs.sh(I:Inv X pins σ H s):∀ {xs:List V} {ds:List PyData} {us:List Value},RdRs H xs ds→Vals xs us→PyData.showableAll ds=true→(∀ t∈PyData.shownAll ds,t.length≤sizeLine)→
  ∃ as bs,ReadsAll s.heap us ds as∧ReadAtMost s.heap (PyData.depthAll ds) bs∧ReprAllK X.prog X.w bs s.heap (PyData.depthAll ds) us (PyData.shownAll ds)
 | _,_,_,.nil,.nil,_,_=>⟨_,[],.nil,by simp [ReadAtMost],by rw [PyData.shownAll];exact .nil⟩
 | _,_,_,.cons (d:=d) (ds:=ds) r t,.cons h hs,q,z=>by
  rw [PyData.showableAll,Bool.and_eq_true] at q
  rw [PyData.shownAll] at z ⊢
  obtain ⟨as1,bs1,r1,r2,r3⟩:=RdR.sh I r h q.1 (z _ (List.mem_cons_self ..))
  obtain ⟨as2,bs2,t1,t2,t3⟩:=RdRs.sh I t hs q.2 fun y hy=>z y (List.mem_cons_of_mem _ hy)
  rw [PyData.depthAll]
  have m1:=Nat.le_max_left d.depth (PyData.depthAll ds)
  have m2:=Nat.le_max_right d.depth (PyData.depthAll ds)
  exact ⟨_,bs1++bs2,.cons r1 t1,(r2.mono m1).append (t2.mono m2),.cons ((r3.more fun b hb=>List.mem_append_left _ hb).level_le m1) (t3.more_le (fun b hb=>List.mem_append_right _ hb) m2)⟩
end
theorem call_reprD(hg:X.A.guards=some [])(hu:X.A.units+64<cLine):CallR X (.builtin "repr") (fun xs H Q=>∃ (a:Addr) (kds:List (PyData×PyData)),xs= [.ref a]∧RdR H (.ref a) (.dict kds)∧(PyData.dict kds).showable=true∧(PyData.dict kds).depth≤60∧(PyData.dict kds).shown.length≤sizeLine∧Q (.str (PyData.dict kds).shown) H):=by
 intro pins s σ H xs us Q I r h
 obtain ⟨a,kds,rfl,rd,h1,h3,h4,q⟩:=h
 obtain ⟨u,rfl,ru⟩:=r.one
 cases (show u=Value.ref a from ru)
 cases rd with
 | dct e k rr=>
  obtain ⟨_,sm,vs,rk,o,es,ep,g,ex,ed,_,pr,_⟩:=dk_rd I.hok e
  rw [PyData.showable] at h1
  obtain ⟨q1,q2⟩:=PyData.showableKv_split kds h1
  rw [PyData.shown] at h4
  obtain ⟨vk,vv⟩:=ents_keys pr rk
  rw [k] at q1
  obtain ⟨as1,r1,r3⟩:=keys_sh (P:=X.prog) (w:=X.w) (h:=s.heap) (PyData.depthKv kds) vk q1 fun t ht=>by
   rw [← k] at ht
   obtain ⟨p,hp,hl⟩:=PyData.shownKv_key_le kds t ht
   exact Nat.le_trans (Nat.le_trans hl (dictText_mem_le hp)) h4
  obtain ⟨as2,bs2,t1,t2,t3⟩:=RdRs.sh I rr vv q2 fun t ht=>by
   obtain ⟨p,hp,hl⟩:=PyData.shownKv_val_le kds t ht
   exact Nat.le_trans (Nat.le_trans hl (dictText_mem_le hp)) h4
  rw [← k] at r1 r3
  have whole:Reads s.heap (.ref a) (.dict kds) _:=.dict g ex.1 ed r1 t1
  have deep:PyData.depthKv kds<(PyData.dict kds).depth:=by rw [PyData.depth];omega
  have both:=t2.mono (PyData.depthAll_vals_le kds)
  rw [PyData.depth] at h3
  rw [PyData.shown,PyData.shownKv_eq] at q
  rw [PyData.shownKv_eq] at h4
  have en:ReprEntriesK X.prog X.w bs2 s.heap (PyData.depthKv kds) es.toList _:=.of_two _ _ _ (r3.more_le (fun b hb=>absurd hb List.not_mem_nil) (Nat.le_refl _)) (t3.more_le (fun b hb=>hb) (PyData.depthAll_vals_le kds))
  exact call_repr_slot (by omega) ⟨o,g,ex.1⟩ F.slot_dict_repr (call_dict_reprK g ex.1 ed sm (not_mem_of_deeper whole deep both) en (A:=X.A.in1) hg (fun b _=>Clear.nil b) (by rw [Around.in1_units];omega) (fun _ _ e=>e) (fun h' u tk hk=>⟨_,_,rfl,.str _,H,I.kept (t':=tk) hk,⟨u,rfl⟩,q⟩) h4)
end
end L2
namespace L3
open PySem PySem.Spec PyProof.Rows L2
abbrev St:=L2.St
abbrev PK:=Sum Int (List Nat)
def S(l:List Nat):Str:=⟨l.toArray⟩
theorem S_cps(l:List Nat):(S l).cps.toList=l:=by simp [S]
theorem S_of(x:Str):S x.cps.toList=x:=by cases x;simp [S]
theorem S_inj{a b:List Nat}(h:S a=S b):a=b:=by have:=congrArg (fun x=>x.cps.toList) h;simpa [S] using this
theorem S_len(l:List Nat):(S l).length=l.length:=by show (S l).cps.size=_;simp [S]
def tk:PK→Key
 | .inl i=>.inl i
 | .inr l=>.inr (S l)
theorem tk_inj{a b:PK}(h:tk a=tk b):a=b:=by
 cases a<;>cases b<;>simp [tk] at h
 ·rw [h]
 ·rw [S_inj h]
inductive PV where
 | non | bl (b:Bool) | int (i:Int) | str (x:List Nat) | ty (n:String) | cls (C:Nat)
 | tup (xs:List PV) | lst (xs:List PV) | giv (xs:List PV) | dct (kvs:List (PK×PV)) | ins (C:Nat) (fs:List (Str×PV))
 | ref (i:Nat) | exc (C:Nat)
mutual
def PV.pure:PV→Bool
 | .ref _=>false
 | .tup xs=>pures xs
 | .lst xs=>pures xs
 | .giv xs=>pures xs
 | .dct kvs=>pureks kvs
 | .ins _ fs=>purefs fs
 | _=>true
def pures:List PV→Bool
 | []=>true
 | x::r=>x.pure&&pures r
def pureks:List (PK×PV)→Bool
 | []=>true
 | (_,x)::r=>x.pure&&pureks r
def purefs:List (Str×PV)→Bool
 | []=>true
 | (_,x)::r=>x.pure&&purefs r
end
theorem pures_map:∀ (l:List PV),pures l=l.all PV.pure
 | []=>by simp [pures]
 | x::r=>by simp [pures,pures_map r]
theorem pureks_map:∀ (l:List (PK×PV)),pureks l=pures (l.map (·.2))
 | []=>by simp [pures,pureks]
 | (k,x)::r=>by simp [pures,pureks,pureks_map r]
theorem purefs_map:∀ (l:List (Str×PV)),purefs l=pures (l.map (·.2))
 | []=>by simp [pures,purefs]
 | (k,x)::r=>by simp [pures,purefs,purefs_map r]
abbrev Tab:=Nat→Option Addr
mutual
inductive RepV(K:PySem.W.Frag)(T:Tab)(F:Hp)(m:List Addr):PV→V→Prop where
 | non:RepV K T F m .non .non
 | bl (b:Bool):RepV K T F m (.bl b) (.bl b)
 | int (i:Int):RepV K T F m (.int i) (.int i)
 | str (x:List Nat):RepV K T F m (.str x) (.str (S x))
 | ty (n:String):RepV K T F m (.ty n) (.ty n)
 | cls {C:Nat} {a:Addr} (c:T C=some a):RepV K T F m (.cls C) (.ref a)
 | tup {ps:List PV} {a:Addr} {vs:List V} (e:SqT K F a vs) (r:RepVs K T F m ps vs):RepV K T F m (.tup ps) (.ref a)
 | lst {ps:List PV} {a:Addr} {vs:List V} (e:F a=some (.lst vs)) (r:RepVs K T F m ps vs):RepV K T F m (.lst ps) (.ref a)
 | giv {ps:List PV} {a:Addr} {vs:List V} (e:SqL K F a vs) (r:RepVs K T F m ps vs):RepV K T F m (.giv ps) (.ref a)
 | dct {kps:List (PK×PV)} {a:Addr} {o:Obj} {kvs:List (Key×V)} (e:F a=some (.frz o (.dK kvs))) (k:kvs.map (·.1)=kps.map (fun p=>tk p.1)) (r:RepVs K T F m (kps.map (·.2)) (kvs.map (·.2))):RepV K T F m (.dct kps) (.ref a)
 | ins {C:Nat} {fs:List (Str×PV)} {a Ca dx:Addr} {fvs:List (Str×V)} (c:T C=some Ca) (e:F a=some (.ins Ca dx fvs)) (d:F dx=some (.own a)) (k:fvs.map (·.1)=fs.map (·.1)) (r:RepVs K T F m (fs.map (·.2)) (fvs.map (·.2))):RepV K T F m (.ins C fs) (.ref a)
 | ref {i:Nat} {a:Addr} (e:m[i]? =some a):RepV K T F m (.ref i) (.ref a)
 | exc {C:Nat} {a Ca:Addr} (c:T C=some Ca) (e:F a=some (ExcO a (.ref Ca))):RepV K T F m (.exc C) (.ref a)
inductive RepVs(K:PySem.W.Frag)(T:Tab)(F:Hp)(m:List Addr):List PV→List V→Prop where
 | nil:RepVs K T F m [] []
 | cons {p:PV} {v:V} {ps:List PV} {vs:List V} (r:RepV K T F m p v) (t:RepVs K T F m ps vs):RepVs K T F m (p::ps) (v::vs)
end
section
variable {K:PySem.W.Frag} {T:Tab} {F F':Hp} {m m':List Addr}
theorem Rd.same{H H':Hp}{a:Addr}{u:HO}(e:Same H H')(h:Rd H a u):Rd H' a u:=by
 rcases h with h | ⟨o,h⟩
 ·exact .inl (e _ _ h)
 ·exact .inr ⟨o,e _ _ h⟩
mutual
theorem RepV.mono(hF:Same F F')(hm:∀ (i:Nat) (a:Addr),m[i]? =some a→m'[i]? =some a):∀ {p:PV} {v:V},RepV K T F m p v→RepV K T F' m' p v
 | _,_,.non=>.non
 | _,_,.bl b=>.bl b
 | _,_,.int i=>.int i
 | _,_,.str x=>.str x
 | _,_,.ty n=>.ty n
 | _,_,.cls c=>.cls c
 | _,_,.tup e r=>.tup (hF.seqT e) (RepVs.mono hF hm r)
 | _,_,.lst e r=>.lst (hF _ _ e) (RepVs.mono hF hm r)
 | _,_,.giv e r=>.giv (hF.seq e) (RepVs.mono hF hm r)
 | _,_,.dct e k r=>.dct (hF _ _ e) k (RepVs.mono hF hm r)
 | _,_,.ins c e d k r=>.ins c (hF _ _ e) (hF _ _ d) k (RepVs.mono hF hm r)
 | _,_,.ref e=>.ref (hm _ _ e)
 | _,_,.exc c e=>.exc c (hF _ _ e)
theorem RepVs.mono(hF:Same F F')(hm:∀ (i:Nat) (a:Addr),m[i]? =some a→m'[i]? =some a):∀ {p:List PV} {v:List V},RepVs K T F m p v→RepVs K T F' m' p v
 | _,_,.nil=>.nil
 | _,_,.cons r t=>.cons (RepV.mono hF hm r) (RepVs.mono hF hm t)
end
mutual
theorem RepV.unref:∀ {p:PV} {v:V},RepV K T F m p v→p.pure=true→RepV K T F m' p v
 | _,_,.non,_=>.non
 | _,_,.bl b,_=>.bl b
 | _,_,.int i,_=>.int i
 | _,_,.str x,_=>.str x
 | _,_,.ty n,_=>.ty n
 | _,_,.cls c,_=>.cls c
 | _,_,.tup e r,h=>.tup e (RepVs.unref r (by simpa [PV.pure] using h))
 | _,_,.lst e r,h=>.lst e (RepVs.unref r (by simpa [PV.pure] using h))
 | _,_,.giv e r,h=>.giv e (RepVs.unref r (by simpa [PV.pure] using h))
 | _,_,.dct e k r,h=>.dct e k (RepVs.unref r (by simpa [PV.pure,pureks_map] using h))
 | _,_,.ins c e d k r,h=>.ins c e d k (RepVs.unref r (by simpa [PV.pure,purefs_map] using h))
 | _,_,.ref e,h=>by simp [PV.pure] at h
 | _,_,.exc c e,_=>.exc c e
theorem RepVs.unref:∀ {p:List PV} {v:List V},RepVs K T F m p v→pures p=true→RepVs K T F m' p v
 | _,_,.nil,_=>.nil
 | _,_,.cons r t,h=>by
  simp only [pures,Bool.and_eq_true] at h
  exact .cons (RepV.unref r h.1) (RepVs.unref t h.2)
end
theorem RepVs.length:∀ {p:List PV} {v:List V},RepVs K T F m p v→p.length=v.length
 | _,_,.nil=>rfl
 | _,_,.cons _ t=>by simp [RepVs.length t]
theorem RepVs.get:∀ {ps:List PV} {vs:List V} {i:Nat} {p:PV},RepVs K T F m ps vs→ps[i]? =some p→∃ v,vs[i]? =some v∧RepV K T F m p v
 | _,_,_,_,.nil,e=>by simp at e
 | _,_,0,_,.cons r _,e=>by simp at e;subst e;exact ⟨_,rfl,r⟩
 | _,_,i+1,p,.cons _ t,e=>by
  obtain ⟨u,h1,h2⟩:=RepVs.get (i:=i) (p:=p) t (by simpa using e)
  exact ⟨u,by simpa using h1,h2⟩
theorem RepVs.append:∀ {ps qs:List PV} {vs ws:List V},RepVs K T F m ps vs→RepVs K T F m qs ws→RepVs K T F m (ps++qs) (vs++ws)
 | _,_,_,_,.nil,s=>s
 | _,_,_,_,.cons r t,s=>.cons r (RepVs.append t s)
theorem RepVs.take:∀ {ps:List PV} {vs:List V} (n:Nat),RepVs K T F m ps vs→RepVs K T F m (ps.take n) (vs.take n)
 | _,_,0,_=>.nil
 | _,_,_+1,.nil=>.nil
 | _,_,n+1,.cons r t=>.cons r (RepVs.take n t)
theorem RepVs.drop:∀ {ps:List PV} {vs:List V} (n:Nat),RepVs K T F m ps vs→RepVs K T F m (ps.drop n) (vs.drop n)
 | _,_,0,r=>r
 | _,_,_+1,.nil=>.nil
 | _,_,n+1,.cons _ t=>RepVs.drop n t
theorem RepVs.set{x:PV}{u:V}(r:RepV K T F m x u):∀ {xs:List PV} {us:List V} (i:Nat),RepVs K T F m xs us→RepVs K T F m (xs.set i x) (us.set i u)
 | _,_,_,.nil=>.nil
 | _,_,0,.cons _ t=>.cons r t
 | _,_,i+1,.cons q t=>.cons q (RepVs.set r i t)
end
inductive PO where
 | lst (xs:List PV) | dct (kvs:List (PK×PV)) | froz (v:PV)
section
variable (K:PySem.W.Frag) (T:Tab) (F:Hp) (m:List Addr)
def ObjR(H:Hp)(a:Addr):PO→Prop
 | .lst ps=>F a=none∧∃ vs,H a=some (.lst vs)∧RepVs K T F m ps vs
 | .dct kps=>F a=none∧∃ kvs,H a=some (.dK kvs)∧kvs.map (·.1)=kps.map (fun p=>tk p.1)∧RepVs K T F m (kps.map (·.2)) (kvs.map (·.2))
 | .froz p=>RepV K T F m p (.ref a)∧p.pure=true∧∃ o,F a=some o
structure RelH(h:List PO)(H:Hp):Prop where
 same:Same F H
 len:h.length=m.length
 obj:∀ (i:Nat) (o:PO) (a:Addr),h[i]? =some o→m[i]? =some a→ObjR K T F m H a o
 nd:m.Nodup
def RelE(ρ:List (Option PV))(σ:St):Prop:=ρ.length=σ.length∧∀ (i:Nat) (p:PV),ρ[i]? =some (some p)→∃ v,σ[i]? =some (some v)∧RepV K T F m p v
structure RelS(ρ:List (Option PV))(h:List PO)(σ:St)(H:Hp):Prop extends RelH K T F m h H where
 env:RelE K T F m ρ σ
end
structure Step(F:Hp)(m:List Addr)(H F':Hp)(m':List Addr)(H':Hp):Prop where
 fz:Same F F'
 pre:∃ t,m'=m++t
 fr:∀ b o,H b=some o→b∉m→H' b=some o
 dom:∀ b o,H b=some o→∃ o',H' b=some o'
 new:∀ (i:Nat) (a:Addr),m.length≤i→m'[i]? =some a→H a=none
 fnew:∀ a o,F' a=some o→F a=some o∨H a=none∨a∈m
section
variable {K:PySem.W.Frag} {T:Tab} {F F1 F2 H H1 H2:Hp} {m m1 m2:List Addr}
theorem Step.refl:Step F m H F m H:=⟨Same.refl _,⟨[],by simp⟩,fun _ _ h _=>h,fun _ o h=>⟨o,h⟩,fun i a h e=>(by rw [List.getElem?_eq_none h] at e;cases e),fun _ _ h=>.inl h⟩
theorem Step.idx(s:Step F m H F1 m1 H1):∀ (i:Nat) (a:Addr),m[i]? =some a→m1[i]? =some a:=fun i a e=>by
 obtain ⟨t,rfl⟩:=s.pre
 have hi:i<m.length:=by
  rcases Nat.lt_or_ge i m.length with h | h
  ·exact h
  ·rw [List.getElem?_eq_none h] at e;cases e
 rw [List.getElem?_append_left hi];exact e
theorem Step.mem(s:Step F m H F1 m1 H1){a:Addr}(h:a∈m1):a∈m∨H a=none:=by
 obtain ⟨i,e⟩:=List.mem_iff_getElem?.mp h
 obtain ⟨t,rfl⟩:=s.pre
 rcases Nat.lt_or_ge i m.length with hi | hi
 ·rw [List.getElem?_append_left hi] at e
  exact .inl (List.mem_of_getElem? e)
 ·exact .inr (s.new i a hi e)
theorem Step.back(s:Step F m H F1 m1 H1){a:Addr}(h:H1 a=none):H a=none:=by
 cases q:H a with
 | none=>rfl
 | some o=>obtain ⟨o',e⟩:=s.dom a o q;rw [h] at e;cases e
theorem Step.trans(s:Step F m H F1 m1 H1)(t:Step F1 m1 H1 F2 m2 H2):Step F m H F2 m2 H2 where
 fz:=s.fz.trans t.fz
 pre:=by
  obtain ⟨x,rfl⟩:=s.pre
  obtain ⟨y,rfl⟩:=t.pre
  exact ⟨x++y,by simp⟩
 fr:=fun b o h n=>t.fr b o (s.fr b o h n) fun z=>by
  rcases s.mem z with q | q
  ·exact n q
  ·rw [h] at q;cases q
 dom:=fun b o h=>by
  obtain ⟨o',e⟩:=s.dom b o h
  exact t.dom b o' e
 new:=fun i a hi e=>by
  obtain ⟨x,rfl⟩:=s.pre
  rcases Nat.lt_or_ge i (m++x).length with h | h
  ·obtain ⟨y,rfl⟩:=t.pre
   rw [List.getElem?_append_left h] at e
   exact s.new i a hi e
  ·exact s.back (t.new i a h e)
 fnew:=fun a o h=>by
  rcases t.fnew a o h with q | q | q
  ·exact s.fnew a o q
  ·exact .inr (.inl (s.back q))
  ·rcases s.mem q with z | z
   ·exact .inr (.inr z)
   ·exact .inr (.inl z)
theorem Step.rep(s:Step F m H F1 m1 H1){p:PV}{v:V}(r:RepV K T F m p v):RepV K T F1 m1 p v:=r.mono s.fz s.idx
theorem Step.reps(s:Step F m H F1 m1 H1){p:List PV}{v:List V}(r:RepVs K T F m p v):RepVs K T F1 m1 p v:=r.mono s.fz s.idx
theorem Step.env(s:Step F m H F1 m1 H1){ρ:List (Option PV)}{σ:St}(r:RelE K T F m ρ σ):RelE K T F1 m1 ρ σ:=⟨r.1,fun i p e=>by
 obtain ⟨v,h1,h2⟩:=r.2 i p e
 exact ⟨v,h1,s.rep h2⟩⟩
theorem Step.lay{h:List PO}{p:Addr}{o:HO}(R:RelH K T F m h H)(hp:H p=none):Step F m H (upd F p o) m (upd H p o)∧RelH K T (upd F p o) m h (upd H p o):=by
 have hF:F p=none:=R.same.free hp
 have sF:Same F (upd F p o):=same_new hF o
 refine ⟨⟨sF,⟨[],by simp⟩,fun b u e _=>by rw [upd_ne (ne_of_none e hp)];exact e,fun b u e=>⟨u,by rw [upd_ne (ne_of_none e hp)];exact e⟩,fun i a hi e=>(by rw [List.getElem?_eq_none hi] at e;cases e),fun a u e=>?_⟩,?_⟩
 ·by_cases ha:a=p
  ·subst ha;exact .inr (.inl hp)
  ·rw [upd_ne ha] at e;exact .inl e
 ·refine ⟨fun b u e=>?_,R.len,fun i ob a h1 h2=>?_,R.nd⟩
  ·by_cases ha:b=p
   ·subst ha;rw [upd_same] at e ⊢;exact e
   ·rw [upd_ne ha] at e ⊢;exact R.same b u e
  ·have q:=R.obj i ob a h1 h2
   have mono:∀ {ps vs},RepVs K T F m ps vs→RepVs K T (upd F p o) m ps vs:=fun r=>r.mono sF fun _ _ h=>h
   cases ob with
   | lst ps=>
    obtain ⟨f,vs,e,r⟩:=q
    have ne:a≠p:=ne_of_none e hp
    exact ⟨by rw [upd_ne ne];exact f,vs,by rw [upd_ne ne];exact e,mono r⟩
   | dct kps=>
    obtain ⟨f,kvs,e,k,r⟩:=q
    have ne:a≠p:=ne_of_none e hp
    exact ⟨by rw [upd_ne ne];exact f,kvs,by rw [upd_ne ne];exact e,k,mono r⟩
   | froz pv=>
    obtain ⟨r,pu,u,e⟩:=q
    exact ⟨r.mono sF fun _ _ h=>h,pu,u,sF _ _ e⟩
end
inductive Res(α:Type) where
 | ok (a:α) (h:List PO) | exc (e:PV) (h:List PO) | bad
def Res.bind{α β:Type}(r:Res α)(k:α→List PO→Res β):Res β:=match r with
 | .ok a h=>k a h
 | .exc e h=>.exc e h
 | .bad=>.bad
@[simp] theorem Res.bind_ok{α β:Type}(a:α)(h:List PO)(k:α→List PO→Res β):(Res.ok a h).bind k=k a h:=rfl
@[simp] theorem Res.bind_exc{α β:Type}(a:PV)(h:List PO)(k:α→List PO→Res β):(Res.exc a h).bind k= .exc a h:=rfl
@[simp] theorem Res.bind_bad{α β:Type}(k:α→List PO→Res β):(Res.bad).bind k= .bad:=rfl
def Post{α β:Type}(K:PySem.W.Frag)(T:Tab)(R:Hp→List Addr→α→β→Prop)(F:Hp)(m:List Addr)(H:Hp)(Q:β→Hp→Prop)(Ew:VK):Res α→Prop
 | .ok a h'=>∀ F' m' H' x,Step F m H F' m' H'→RelH K T F' m' h' H'→R F' m' a x→Q x H'
 | .exc e h'=>∀ F' m' H' v,Step F m H F' m' H'→RelH K T F' m' h' H'→RepV K T F' m' e v→Ew v H'
 | .bad=>False
section
variable {K:PySem.W.Frag} {T:Tab} {F F1 H H1:Hp} {m m1:List Addr} {α β γ δ:Type} {R:Hp→List Addr→α→β→Prop} {R':Hp→List Addr→γ→δ→Prop} {Ew:VK}
theorem Post.step{Q:β→Hp→Prop}{res:Res α}(s:Step F m H F1 m1 H1)(p:Post K T R F m H Q Ew res):Post K T R F1 m1 H1 Q Ew res:=by
 cases res with
 | ok a h=>exact fun F' m' H' x t=>p F' m' H' x (s.trans t)
 | exc e h=>exact fun F' m' H' x t=>p F' m' H' x (s.trans t)
 | bad=>exact p
theorem Post.bind{Q:δ→Hp→Prop}{res:Res α}{k:α→List PO→Res γ}(p:Post K T R' F m H Q Ew (res.bind k)):
  Post K T R F m H (fun x H1=>∃ F1 m1 h1 a,Step F m H F1 m1 H1∧RelH K T F1 m1 h1 H1∧R F1 m1 a x∧Post K T R' F1 m1 H1 Q Ew (k a h1)) Ew res:=by
 cases res with
 | ok a h=>exact fun F' m' H' x s r q=>⟨F',m',h,a,s,r,q,Post.step s p⟩
 | exc e h=>exact p
 | bad=>exact p
theorem Post.mono{Q Q':β→Hp→Prop}{res:Res α}(p:Post K T R F m H Q Ew res)(hq:∀ x H',Q x H'→Q' x H'):Post K T R F m H Q' Ew res:=by
 cases res with
 | ok a h=>exact fun F' m' H' x s r q=>hq _ _ (p F' m' H' x s r q)
 | exc e h=>exact p
 | bad=>exact p
theorem Post.here{Q:β→Hp→Prop}{a:α}{h:List PO}{x:β}(p:Post K T R F m H Q Ew (.ok a h))(R0:RelH K T F m h H)(r:R F m a x):Q x H:=p F m H x .refl R0 r
end
abbrev Ev:=List (Option PV)
abbrev Ex:=Ev→List PO→Res PV
abbrev Tx:=Ev→List PO→Res Bool
abbrev Ax:=Ev→List PO→Res (List PV)
def RB:Hp→List Addr→Bool→Bool→Prop:=fun _ _ a b=>a=b
section
variable (X:Cx) (T:Tab) (Ew:VK)
def wE(f:Ex):TE:=fun σ H Q=>∃ F m ρ h,RelS X.K T F m ρ h σ H∧Post X.K T (RepV X.K T) F m H Q Ew (f ρ h)
def wT(f:Tx):TT:=fun σ H Q=>∃ F m ρ h,RelS X.K T F m ρ h σ H∧Post X.K T RB F m H Q Ew (f ρ h)
def wA(f:Ax):TA:=fun σ H Q=>∃ F m ρ h,RelS X.K T F m ρ h σ H∧Post X.K T (RepVs X.K T) F m H Q Ew (f ρ h)
@[irreducible] def RE(e:Expr)(f:Ex):Prop:=PE X e (wE X T Ew f)
@[irreducible] def RT(e:Expr)(f:Tx):Prop:=PT X e (wT X T Ew f)
@[irreducible] def RA(es:List Expr)(f:Ax):Prop:=PA X es (wA X T Ew f)
end
theorem PE.imp{X:Cx}{e:Expr}{t t':TE}(h:PE X e t)(i:∀ σ H Q,t' σ H Q→t σ H Q):PE X e t':=fun pins s σ H Q I q=>h pins s σ H Q I (i _ _ _ q)
theorem PT.imp{X:Cx}{e:Expr}{t t':TT}(h:PT X e t)(i:∀ σ H Q,t' σ H Q→t σ H Q):PT X e t':=fun pins s σ H Q I q=>h pins s σ H Q I (i _ _ _ q)
theorem PW.imp{X:Cx}{e:Expr}{t t':TT}(h:PW X e t)(i:∀ σ H Q,t' σ H Q→t σ H Q):PW X e t':=fun w pins s σ H Q I q=>h w pins s σ H Q I (i _ _ _ q)
theorem PA.imp{X:Cx}{es:List Expr}{t t':TA}(h:PA X es t)(i:∀ σ H Q,t' σ H Q→t σ H Q):PA X es t':=fun pos pins s σ H Q I q=>h pos pins s σ H Q I (i _ _ _ q)
theorem PS.imp{X:Cx}{e:Stmt}{t t':TS}(h:PS X e t)(i:∀ D σ H,t' D σ H→t D σ H):PS X e t':=fun pins s σ H D I q=>h pins s σ H D I (i _ _ _ q)
theorem PSs.imp{X:Cx}{e:List Stmt}{t t':TS}(h:PSs X e t)(i:∀ D σ H,t' D σ H→t D σ H):PSs X e t':=fun pins s σ H D I q=>h pins s σ H D I (i _ _ _ q)
def derefP(h:List PO):PV→PV
 | .ref i=>match h[i]? with
  | some (.froz q)=>q
  | _=>.ref i
 | p=>p
theorem RelH.deref{K:PySem.W.Frag}{T:Tab}{F H:Hp}{m:List Addr}{h:List PO}(R:RelH K T F m h H){p:PV}{v:V}(r:RepV K T F m p v):RepV K T F m (derefP h p) v:=by
 cases r with
 | @ref i a e=>
  show RepV K T F m (match h[i]? with | some (.froz q)=>q | _=>.ref i) (.ref a)
  cases q:h[i]? with
  | none=>exact .ref e
  | some o=>
   cases o with
   | froz p=>exact (R.obj i _ a q e).1
   | lst _=>exact .ref e
   | dct _=>exact .ref e
 | non=>exact .non
 | bl b=>exact .bl b
 | int b=>exact .int b
 | str b=>exact .str b
 | ty b=>exact .ty b
 | cls c=>exact .cls c
 | tup e r=>exact .tup e r
 | lst e r=>exact .lst e r
 | giv e r=>exact .giv e r
 | dct e k r=>exact .dct e k r
 | ins c e d k r=>exact .ins c e d k r
 | exc c e=>exact .exc c e
def cVar(i:Nat):Ex:=fun ρ h=>match ρ[i]? with
 | some (some p)=>.ok (derefP h p) h
 | _=>.bad
def cK(v:PV):Ex:=fun _ h=>.ok v h
def c1(g:PV→List PO→Res PV)(a:Ex):Ex:=fun ρ h=>(a ρ h).bind g
def c2(g:PV→PV→List PO→Res PV)(a b:Ex):Ex:=fun ρ h=>(a ρ h).bind fun x h1=>(b ρ h1).bind fun y h2=>g x y h2
def cN(g:List PV→List PO→Res PV)(a:Ax):Ex:=fun ρ h=>(a ρ h).bind g
def aNil:Ax:=fun _ h=>.ok [] h
def aCons(a:Ex)(r:Ax):Ax:=fun ρ h=>(a ρ h).bind fun x h1=>(r ρ h1).bind fun xs h2=>.ok (x::xs) h2
section
variable {X:Cx} {T:Tab} {Ew:VK}
theorem re_pe{e:Expr}{t:TE}{f:Ex}(h:PE X e t)(i:∀ σ H Q F m ρ h,RelS X.K T F m ρ h σ H→Post X.K T (RepV X.K T) F m H Q Ew (f ρ h)→t σ H Q):RE X T Ew e f:=by with_unfolding_all exact (
 PE.imp h fun σ H Q ⟨F,m,ρ,h,R,p⟩=>i σ H Q F m ρ h R p)
theorem rv(i:Nat){x:Str}{pos:Pos}(hN:X.N[i]? =some x:=by rfl)(hv:Vis X.env.scope x:=by first | exact Or.inl rfl | exact Or.inr (Or.inl rfl) | exact Or.inr (Or.inr rfl))(hd:(x==("__debug__":Str))=false:=by decide)
  (hcd:(x==("__classdict__":Str))=false:=by decide):RE X T Ew (.Name x pos) (cVar i):=by with_unfolding_all
 refine re_pe (pe_var hN hv hd hcd) fun σ H Q F m ρ h R p=>?_
 unfold cVar at p
 cases q:ρ[i]? with
 | none=>rw [q] at p;exact p.elim
 | some o=>
  cases o with
  | none=>rw [q] at p;exact p.elim
  | some pv=>
   rw [q] at p
   obtain ⟨v,h1,h2⟩:=R.env.2 i pv q
   exact ⟨v,h1,Post.here p R.toRelH (R.deref h2)⟩
theorem re_const{e:Expr}{v:V}{p:PV}(h:PE X e (tC v))(r:∀ F m,RepV X.K T F m p v):RE X T Ew e (cK p):=by with_unfolding_all exact (
 re_pe h fun σ H Q F m ρ h R q=>Post.here q R.toRelH (r F m))
theorem re_int{i:Int}{j pos}:RE X T Ew (.Constant (.int i) j pos) (cK (.int i)):=by with_unfolding_all exact (
  re_const pe_int fun _ _=>.int i)
theorem re_bl{b:Bool}{j pos}:RE X T Ew (.Constant (.bool b) j pos) (cK (.bl b)):=by with_unfolding_all exact (
  re_const pe_bl fun _ _=>.bl b)
theorem re_non{j pos}:RE X T Ew (.Constant .none j pos) (cK .non):=by with_unfolding_all exact (
  re_const pe_non fun _ _=>.non)
theorem re_str{x:Str}(l:List Nat){j pos}(e:x=S l:=by rfl):RE X T Ew (.Constant (.str x) j pos) (cK (.str l)):=by with_unfolding_all exact (
  re_const pe_str fun _ _=>by rw [e];exact .str l)
def Prim1(K:PySem.W.Frag)(T:Tab)(r:V→Hp→VK→Prop)(g:PV→List PO→Res PV):Prop:=
 ∀ F m h H x p Q Ew,RelH K T F m h H→RepV K T F m p x→Post K T (RepV K T) F m H Q Ew (g p h)→r x H Q
def Prim2(K:PySem.W.Frag)(T:Tab)(r:R2)(g:PV→PV→List PO→Res PV):Prop:=
 ∀ F m h H x y p q Q Ew,RelH K T F m h H→RepV K T F m p x→RepV K T F m q y→Post K T (RepV K T) F m H Q Ew (g p q h)→r x y H Q
def PrimN(K:PySem.W.Frag)(T:Tab)(r:List V→Hp→VK→Prop)(g:List PV→List PO→Res PV):Prop:=
 ∀ F m h H xs ps Q Ew,RelH K T F m h H→RepVs K T F m ps xs→Post K T (RepV K T) F m H Q Ew (g ps h)→r xs H Q
theorem RelS.of{K:PySem.W.Frag}{F F1 H H1:Hp}{m m1:List Addr}{ρ:Ev}{h h1:List PO}{σ:St}(R:RelS K T F m ρ h σ H)(s:Step F m H F1 m1 H1)(R1:RelH K T F1 m1 h1 H1):RelS K T F1 m1 ρ h1 σ H1:=⟨R1,s.env R.env⟩
theorem w1{r:V→Hp→VK→Prop}{g:PV→List PO→Res PV}{fa:Ex}(P:Prim1 X.K T r g){σ:St}{H:Hp}{Q:VK}(w:wE X T Ew (c1 g fa) σ H Q):tUn r (wE X T Ew fa) σ H Q:=by
 obtain ⟨F,m,ρ,h,R,p⟩:=w
 exact ⟨F,m,ρ,h,R,(Post.bind p).mono fun x H1 ⟨F1,m1,h1,a,s,R1,ra,p1⟩=>P F1 m1 h1 H1 x a Q Ew R1 ra p1⟩
theorem w2{r:R2}{g:PV→PV→List PO→Res PV}{fa fb:Ex}(P:Prim2 X.K T r g){σ:St}{H:Hp}{Q:VK}(w:wE X T Ew (c2 g fa fb) σ H Q):tOp r (wE X T Ew fa) (wE X T Ew fb) σ H Q:=by
 obtain ⟨F,m,ρ,h,R,p⟩:=w
 refine ⟨F,m,ρ,h,R,(Post.bind p).mono fun x H1 ⟨F1,m1,h1,a,s,R1,ra,p1⟩=>?_⟩
 refine ⟨F1,m1,ρ,h1,R.of s R1,(Post.bind p1).mono fun y H2 ⟨F2,m2,h2,b,s2,R2,rb,p2⟩=>?_⟩
 exact P F2 m2 h2 H2 x y a b Q Ew R2 (s2.rep ra) rb p2
theorem wN{r:List V→Hp→VK→Prop}{g:List PV→List PO→Res PV}{fa:Ax}(P:PrimN X.K T r g){σ:St}{H:Hp}{Q:VK}(w:wE X T Ew (cN g fa) σ H Q):tCB r (wA X T Ew fa) σ H Q:=by
 obtain ⟨F,m,ρ,h,R,p⟩:=w
 exact ⟨F,m,ρ,h,R,(Post.bind p).mono fun x H1 ⟨F1,m1,h1,a,s,R1,ra,p1⟩=>P F1 m1 h1 H1 x a Q Ew R1 ra p1⟩
theorem ra_nil:RA X T Ew [] aNil:=by with_unfolding_all exact (
  PA.imp pa_nil fun σ H Q ⟨F,m,ρ,h,R,p⟩=>Post.here p R.toRelH .nil)
theorem ra_cons{e:Expr}{es:List Expr}{f:Ex}{fs:Ax}(ha:RE X T Ew e f)(hr:RA X T Ew es fs)(hs:starEach (e::es) X.env=(false,eval e X.env)::starEach es X.env:=by rfl):RA X T Ew (e::es) (aCons f fs):=by with_unfolding_all
 refine PA.imp (pa_cons ha hr hs) fun σ H Q ⟨F,m,ρ,h,R,p⟩=>?_
 refine ⟨F,m,ρ,h,R,(Post.bind p).mono fun x H1 ⟨F1,m1,h1,a,s,R1,ra,p1⟩=>?_⟩
 refine ⟨F1,m1,ρ,h1,R.of s R1,(Post.bind p1).mono fun y H2 ⟨F2,m2,h2,b,s2,R2,rb,p2⟩=>?_⟩
 exact Post.here p2 R2 (.cons (s2.rep ra) rb)
theorem re_op{op:Operator}{r:R2}{g:PV→PV→List PO→Res PV}{a b:Expr}{fa fb:Ex}{pos:Pos}(ho:OpR X (binaryOp op) r)(P:Prim2 X.K T r g)(ha:RE X T Ew a fa)(hb:RE X T Ew b fb):RE X T Ew (.BinOp a op b pos) (c2 g fa fb):=by with_unfolding_all exact (
 PE.imp (pe_op ho ha hb) fun σ H Q w=>w2 P w)
theorem re_un{op:UnaryOp}{r:V→Hp→VK→Prop}{g:PV→List PO→Res PV}{a:Expr}{fa:Ex}{pos:Pos}(ho:UnR X (unaryOp op) r)(P:Prim1 X.K T r g)(ha:RE X T Ew a fa):RE X T Ew (.UnaryOp op a pos) (c1 g fa):=by with_unfolding_all exact (
 PE.imp (pe_un ho ha) fun σ H Q w=>w1 P w)
theorem re_cmp{op:CmpOp}{r:R2}{g:PV→PV→List PO→Res PV}{a b:Expr}{fa fb:Ex}{pos:Pos}(ho:OpR X (compareOp op) r)(P:Prim2 X.K T r g)(ha:RE X T Ew a fa)(hb:RE X T Ew b fb)(hm:behindInMarks op b=false):RE X T Ew (.Compare a [op] [b] pos) (c2 g fa fb):=by with_unfolding_all exact (
 PE.imp (pe_cmpR ho ha hb hm) fun σ H Q w=>w2 P w)
end
end L3
namespace L3
open PySem PySem.Spec PyProof.Rows L2
def lsM(h:List PO):PV→Option (List PV)
 | .lst xs=>some xs
 | .ref i=>match h[i]? with
  | some (.lst xs)=>some xs
  | _=>none
 | _=>none
def lsR(h:List PO):PV→Option (List PV)
 | .giv xs=>some xs
 | p=>lsM h p
def dcR(h:List PO):PV→Option (List (PK×PV))
 | .dct kvs=>some kvs
 | .ref i=>match h[i]? with
  | some (.dct kvs)=>some kvs
  | _=>none
 | _=>none
def sqR(h:List PO):PV→Option (List PV)
 | .tup xs=>some xs
 | p=>lsR h p
section
variable {K:PySem.W.Frag} {T:Tab} {F H:Hp} {m:List Addr} {h:List PO} {p:PV} {x:V} {ps:List PV}
theorem lsM_rep(R:RelH K T F m h H)(r:RepV K T F m p x)(e:lsM h p=some ps):∃ a vs,x= .ref a∧H a=some (.lst vs)∧RepVs K T F m ps vs:=by
 cases r with
 | lst ef rr=>simp only [lsM,Option.some.injEq] at e;subst e;exact ⟨_,_,rfl,R.same _ _ ef,rr⟩
 | @ref i a em=>
  have e:(match h[i]? with | some (.lst xs)=>some xs | _=>none)=some ps:=e
  cases q:h[i]? with
  | none=>rw [q] at e;cases e
  | some o=>
   rw [q] at e
   cases o with
   | lst xs=>
    simp only [Option.some.injEq] at e;subst e
    obtain ⟨_,vs,e1,rr⟩:=R.obj i _ a q em
    exact ⟨a,vs,rfl,e1,rr⟩
   | dct _=>cases e
   | froz _=>cases e
 | _=>simp [lsM] at e
theorem lsR_rep(R:RelH K T F m h H)(r:RepV K T F m p x)(e:lsR h p=some ps):∃ a vs,x= .ref a∧SqL K H a vs∧RepVs K T F m ps vs:=by
 by_cases hg:∃ xs,p= .giv xs
 ·obtain ⟨xs,rfl⟩:=hg
  simp only [lsR,Option.some.injEq] at e;subst e
  cases r with
  | giv ef rr=>exact ⟨_,_,rfl,R.same.seq ef,rr⟩
 ·have e':lsM h p=some ps:=by
   unfold lsR at e
   split at e
   ·exact absurd ⟨_,rfl⟩ hg
   ·exact e
  obtain ⟨a,vs,e1,e2,rr⟩:=lsM_rep R r e'
  exact ⟨a,vs,e1,SqL.of e2,rr⟩
theorem tup_rep(R:RelH K T F m h H)(r:RepV K T F m (.tup ps) x):∃ a vs,x= .ref a∧SqT K H a vs∧RepVs K T F m ps vs:=by
 cases r with
 | tup ef rr=>exact ⟨_,_,rfl,R.same.seqT ef,rr⟩
theorem sqR_rep(R:RelH K T F m h H)(r:RepV K T F m p x)(e:sqR h p=some ps):∃ a vs,x= .ref a∧(SqL K H a vs∨SqT K H a vs)∧RepVs K T F m ps vs:=by
 by_cases hg:∃ xs,p= .tup xs
 ·obtain ⟨xs,rfl⟩:=hg
  simp only [sqR,Option.some.injEq] at e;subst e
  obtain ⟨a,vs,e1,e2,rr⟩:=tup_rep R r
  exact ⟨a,vs,e1,.inr e2,rr⟩
 ·have e':lsR h p=some ps:=by
   unfold sqR at e
   split at e
   ·exact absurd ⟨_,rfl⟩ hg
   ·exact e
  obtain ⟨a,vs,e1,e2,rr⟩:=lsR_rep R r e'
  exact ⟨a,vs,e1,.inl e2,rr⟩
theorem dcR_rep{kps:List (PK×PV)}(R:RelH K T F m h H)(r:RepV K T F m p x)(e:dcR h p=some kps):∃ a kvs,x= .ref a∧Rd H a (.dK kvs)∧kvs.map (·.1)=kps.map (fun p=>tk p.1)∧RepVs K T F m (kps.map (·.2)) (kvs.map (·.2)):=by
 cases r with
 | dct ef k rr=>simp only [dcR,Option.some.injEq] at e;subst e;exact ⟨_,_,rfl,.inr ⟨_,R.same _ _ ef⟩,k,rr⟩
 | @ref i a em=>
  have e:(match h[i]? with | some (.dct xs)=>some xs | _=>none)=some kps:=e
  cases q:h[i]? with
  | none=>rw [q] at e;cases e
  | some o=>
   rw [q] at e
   cases o with
   | dct xs=>
    simp only [Option.some.injEq] at e;subst e
    obtain ⟨_,vs,e1,k,rr⟩:=R.obj i _ a q em
    exact ⟨a,vs,rfl,.inl e1,k,rr⟩
   | lst _=>cases e
   | froz _=>cases e
 | _=>simp [dcR] at e
theorem RepVs.at{ps:List PV}{vs:List V}{i:Int}{p:PV}(r:RepVs K T F m ps vs)(e:atI ps i=some p):∃ v,atI vs i=some v∧RepV K T F m p v:=by
 unfold atI at e ⊢
 rw [← r.length]
 cases q:ixN ps.length i with
 | none=>rw [q] at e;cases e
 | some j=>
  rw [q] at e
  simp only [Option.bind_some] at e ⊢
  exact r.get e
end
theorem OpR.or{X:Cx}{f:Value→Value→Sem Value}{r r':R2}(h:OpR X f r)(h':OpR X f r'):OpR X f (fun x y H Q=>r x y H Q∨r' x y H Q):=by
 intro pins s σ H x y v u Q I rx ry q
 rcases q with q | q
 ·exact h pins s σ H x y v u Q I rx ry q
 ·exact h' pins s σ H x y v u Q I rx ry q
theorem CallR.or{X:Cx}{f:Value}{r r':List V→Hp→VK→Prop}(h:CallR X f r)(h':CallR X f r'):CallR X f (fun x H Q=>r x H Q∨r' x H Q):=by
 intro pins s σ H x v Q I rx q
 rcases q with q | q
 ·exact h pins s σ H x v Q I rx q
 ·exact h' pins s σ H x v Q I rx q
theorem SlR.or{X:Cx}{r r':V→Option Int→Option Int→Hp→VK→Prop}(h:SlR X r)(h':SlR X r'):SlR X (fun x l u H Q=>r x l u H Q∨r' x l u H Q):=by
 intro pins s σ H x v vl vu lo hi sl Q I rx hs pl pu q
 rcases q with q | q
 ·exact h pins s σ H x v vl vu lo hi sl Q I rx hs pl pu q
 ·exact h' pins s σ H x v vl vu lo hi sl Q I rx hs pl pu q
section
variable {K:PySem.W.Frag} {T:Tab} {F H:Hp} {m:List Addr} {h:List PO} {Q:VK} {Ew:VK}
theorem post_ok{p:PV}{x:V}(w:Post K T (RepV K T) F m H Q Ew (.ok p h))(R:RelH K T F m h H)(r:RepV K T F m p x):Q x H:=w F m H x .refl R r
theorem post_lst{ps:List PV}{vs:List V}(w:Post K T (RepV K T) F m H Q Ew (.ok (.lst ps) h))(R:RelH K T F m h H)(r:RepVs K T F m ps vs):∀ p,H p=none→Q (.ref p) (upd H p (.lst vs)):=fun p hp=>by
 obtain ⟨s,R'⟩:=Step.lay (o:=.lst vs) R hp
 exact w _ m _ _ s R' (.lst upd_same (s.reps r))
theorem post_tup{ps:List PV}{vs:List V}(w:Post K T (RepV K T) F m H Q Ew (.ok (.tup ps) h))(R:RelH K T F m h H)(r:RepVs K T F m ps vs):∀ p,H p=none→Q (.ref p) (upd H p (.tup vs)):=fun p hp=>by
 obtain ⟨s,R'⟩:=Step.lay (o:=.tup vs) R hp
 exact w _ m _ _ s R' (.tup (SqT.of upd_same) (s.reps r))
theorem post_new{ps:List PV}{vs:List V}(w:Post K T (RepV K T) F m H Q Ew (.ok (.ref h.length) (h++ [.lst ps])))(R:RelH K T F m h H)(r:RepVs K T F m ps vs):∀ p,H p=none→Q (.ref p) (upd H p (.lst vs)):=fun p hp=>by
 have hF:F p=none:=R.same.free hp
 have hm:p∉m:=fun z=>by
  obtain ⟨i,e⟩:=List.mem_iff_getElem?.mp z
  have hi:i<h.length:=by
   rw [R.len]
   rcases Nat.lt_or_ge i m.length with q | q
   ·exact q
   ·rw [List.getElem?_eq_none q] at e;cases e
  have e2:h[i]? =some h[i]:=List.getElem?_eq_getElem hi
  have q:=R.obj i _ p e2 e
  cases ho:h[i] with
  | lst xs=>rw [ho] at q;obtain ⟨_,vs,z,_⟩:=q;rw [hp] at z;cases z
  | dct xs=>rw [ho] at q;obtain ⟨_,vs,z,_⟩:=q;rw [hp] at z;cases z
  | froz xs=>rw [ho] at q;obtain ⟨_,_,o,z⟩:=q;rw [hF] at z;cases z
 have st:Step F m H F (m++ [p]) (upd H p (.lst vs)):=by
  refine ⟨Same.refl _,⟨[p],rfl⟩,fun b o e _=>by rw [upd_ne (ne_of_none e hp)];exact e,fun b o e=>⟨o,by rw [upd_ne (ne_of_none e hp)];exact e⟩,fun i a hi e=>?_,fun a o e=>.inl e⟩
  rw [List.getElem?_append_right hi] at e
  have:a=p:=by
   cases q:i - m.length with
   | zero=>rw [q] at e;simpa using e.symm
   | succ k=>rw [q] at e;simp at e
  rw [this];exact hp
 refine w F (m++ [p]) _ _ st ⟨fun b o e=>by rw [upd_ne (ne_of_none (R.same b o e) hp)];exact R.same b o e,by simp [R.len],fun i o a e1 e2=>?_,?_⟩ (.ref (by rw [R.len];simp))
 ·rcases Nat.lt_or_ge i h.length with hi | hi
  ·rw [List.getElem?_append_left hi] at e1
   rw [List.getElem?_append_left (by rw [← R.len];exact hi)] at e2
   have q:=R.obj i o a e1 e2
   cases o with
   | lst xs=>
    obtain ⟨f,ws,z,rr⟩:=q
    exact ⟨f,ws,by rw [upd_ne (ne_of_none z hp)];exact z,st.reps rr⟩
   | dct xs=>
    obtain ⟨f,ws,z,k,rr⟩:=q
    exact ⟨f,ws,by rw [upd_ne (ne_of_none z hp)];exact z,k,st.reps rr⟩
   | froz q'=>
    obtain ⟨r1,r2,r3⟩:=q
    exact ⟨st.rep r1,r2,r3⟩
  ·have hi':i=h.length:=by
    rcases Nat.lt_or_ge i (h.length+1) with z | z
    ·omega
    ·rw [List.getElem?_eq_none (by simp;omega)] at e1;cases e1
   subst hi'
   have e1':o= .lst ps:=by simpa using e1.symm
   subst e1'
   have e2':a=p:=by rw [R.len] at e2;simpa using e2.symm
   subst e2'
   exact ⟨hF,vs,upd_same,st.reps r⟩
 ·refine List.nodup_append.mpr ⟨R.nd,by simp,fun a ha b hb=>?_⟩
  have:b=p:=by simpa using hb
  subst this
  rintro rfl
  exact hm ha
end
def oI(i:Int)(h:List PO):Res PV:=.ok (.int i) h
def pAdd(p q:PV)(h:List PO):Res PV:=match p,q with
 | .int i,.int j=>.ok (.int (i+j)) h
 | .int i,.bl b=>.ok (.int (i+b2i b)) h
 | .str a,.str b=>if a.length+b.length≤sizeLine then .ok (.str (a++b)) h else .bad
 | .tup a,.tup b=>if a.isEmpty=false∧a.length+b.length≤sizeLine then .ok (.tup (a++b)) h else .bad
 | p,q=>match lsM h p,lsM h q with
  | some a,some b=>if a.length+b.length≤sizeLine then .ok (.lst (a++b)) h else .bad
  | _,_=>.bad
def rAddA(K:PySem.W.Frag):R2:=fun x y H Q=>(rI0 fun i j=>V.int (i+j)) x y H Q∨(∃ i k,x= .int i∧y= .bl k∧Q (.int (i+b2i k)) H)∨
 (∃ i j,x= .str i∧y= .str j∧i.length+j.length≤sizeLine∧Q (.str (i++j)) H)∨rCatT K x y H Q∨rCat x y H Q
theorem op_addA{X:Cx}:OpR X (binaryOp .Add) (rAddA X.K):=OpR.or op_add (OpR.or op_add_ib (OpR.or op_add_str (OpR.or op_catT op_cat)))
theorem S_append(a b:List Nat):S a++S b=S (a++b):=by
 show (⟨(S a).cps++(S b).cps⟩:Str)=_
 simp [S]
theorem prim_add{K:PySem.W.Frag}{T:Tab}:Prim2 K T (rAddA K) pAdd:=by
 intro F m h H x y p q Q Ew R rp rq w
 unfold pAdd at w
 split at w
 ·cases rp;cases rq;exact .inl ⟨_,_,rfl,rfl,post_ok w R (.int _)⟩
 ·cases rp;cases rq;exact .inr (.inl ⟨_,_,rfl,rfl,post_ok w R (.int _)⟩)
 ·rename_i a b
  cases rp;cases rq
  split at w
  ·rename_i hz
   exact .inr (.inr (.inl ⟨_,_,rfl,rfl,by rw [S_len,S_len];exact hz,by rw [S_append];exact post_ok w R (.str _)⟩))
  ·exact w.elim
 ·rename_i a b
  split at w
  ·rename_i hz
   obtain ⟨pa,va,rfl,ea,ra⟩:=tup_rep R rp
   obtain ⟨pb,vb,rfl,eb,rb⟩:=tup_rep R rq
   refine .inr (.inr (.inr (.inl ⟨pa,pb,va,vb,rfl,rfl,ea,eb,fun z=>?_,by rw [← ra.length,← rb.length];exact hz.2,fun z=>?_,fun _=>post_tup w R (ra.append rb)⟩)))
   ·subst z
    have:=ra.length
    cases a with
    | nil=>simp at hz
    | cons _ _=>simp at this
   ·subst z
    have:=rb.length
    cases b with
    | nil=>
     rw [List.append_nil] at w
     exact post_ok w R rp
    | cons _ _=>simp at this
  ·exact w.elim
 ·split at w
  ·rename_i a b e1 e2
   split at w
   ·rename_i hz
    obtain ⟨pa,va,rfl,ea,ra⟩:=lsM_rep R rp e1
    obtain ⟨pb,vb,rfl,eb,rb⟩:=lsM_rep R rq e2
    exact .inr (.inr (.inr (.inr ⟨pa,pb,va,vb,rfl,rfl,ea,eb,by rw [← ra.length,← rb.length];exact hz,post_lst w R (ra.append rb)⟩)))
   ·exact w.elim
  ·exact w.elim
theorem re_add{X:Cx}{T:Tab}{Ew:VK}{a b:Expr}{fa fb:Ex}{pos:Pos}(ha:RE X T Ew a fa)(hb:RE X T Ew b fb):RE X T Ew (.BinOp a .Add b pos) (c2 pAdd fa fb):=by with_unfolding_all exact (
  re_op op_addA prim_add ha hb)
def pI(C:Int→Int→Bool)(g:Int→Int→Int)(p q:PV)(h:List PO):Res PV:=match p,q with
 | .int i,.int j=>if C i j=true then .ok (.int (g i j)) h else .bad
 | _,_=>.bad
theorem prim_I{K:PySem.W.Frag}{T:Tab}{C:Int→Int→Bool}{C':Int→Int→Prop}{g:Int→Int→Int}(hC:∀ i j,C i j=true→C' i j):Prim2 K T (rI C' fun i j=>.int (g i j)) (pI C g):=by
 intro F m h H x y p q Q Ew R rp rq w
 unfold pI at w
 split at w
 ·cases rp;cases rq
  split at w
  ·rename_i hc
   exact ⟨_,_,rfl,rfl,hC _ _ hc,post_ok w R (.int _)⟩
  ·exact w.elim
 ·exact w.elim
def pSub(p q:PV)(h:List PO):Res PV:=match p,q with
 | .int i,.int j=>.ok (.int (i - j)) h
 | _,_=>.bad
theorem prim_sub{K:PySem.W.Frag}{T:Tab}:Prim2 K T (rI0 fun i j=>.int (i - j)) pSub:=by
 intro F m h H x y p q Q Ew R rp rq w
 unfold pSub at w
 split at w
 ·cases rp;cases rq;exact ⟨_,_,rfl,rfl,post_ok w R (.int _)⟩
 ·exact w.elim
abbrev pMod:=pI (fun _ j=>decide (0<j)) (fun i j=>i % j)
abbrev pDiv:=pI (fun _ j=>decide (0<j∧j<1073741824)) (fun i j=>i / j)
abbrev pPow:=pI (fun i j=>decide (0≤j∧j≤1000000∧i.natAbs<2 ^ 64)) (fun i j=>i ^ j.toNat)
def bel(n:Nat)(i:Int):Bool:=Nat.blt i.natAbs n
theorem bel_iff{n:Nat}{i:Int}:bel n i=true↔ -(n:Int)<i∧i<(n:Int):=by
 unfold bel
 rw [Nat.blt_eq]
 omega
def mulC(i j:Int):Bool:=bel 18446744073709551616 i||bel 18446744073709551616 j
def repL{α:Type}(xs:List α)(k:Int):List α:=(List.replicate k.toNat xs).flatten
def pMul(p q:PV)(h:List PO):Res PV:=match p,q with
 | .int i,.int j=>if mulC i j=true then .ok (.int (i * j)) h else .bad
 | .str a,.int k=>if bel 1048576 k=true∧a.length * k.toNat≤1048576 then .ok (.str (repL a k)) h else .bad
 | p,.int k=>match lsM h p with
  | some xs=>if bel 9223372036854775808 k=true∧xs.length * k.toNat≤sizeLine then .ok (.lst (repL xs k)) h else .bad
  | _=>.bad
 | _,_=>.bad
def rMulA:R2:=fun x y H Q=>rI CMul (fun i j=>.int (i * j)) x y H Q∨rMulS x y H Q∨rRep x y H Q
theorem op_mulA{X:Cx}:OpR X (binaryOp .Mult) rMulA:=OpR.or op_mul (OpR.or op_mul_str op_rep)
theorem foldl_app(l:List Nat):∀ (k:Nat) (acc:List Nat),(List.replicate k l.toArray).foldl (· ++ ·) acc.toArray=(acc++(List.replicate k l).flatten).toArray
 | 0,acc=>by simp
 | k+1,acc=>by
  rw [List.replicate_succ,List.foldl_cons,List.replicate_succ,List.flatten_cons,← List.append_assoc,← foldl_app l k (acc++l)]
  congr 1
  simp
theorem S_mul(a:List Nat)(k:Int):Txt.mul (S a) k=S (repL a k):=by
 unfold Txt.mul repL
 by_cases h1:k<1
 ·rw [if_pos h1]
  have:k.toNat=0:=by omega
  rw [this];rfl
 ·rw [if_neg h1]
  by_cases h2:k=1
  ·subst h2;simp
  ·by_cases h3:(S a).length=0
   ·rw [if_pos (by simp [h3])]
    have:a= []:=by rw [S_len] at h3;exact List.length_eq_zero_iff.mp h3
    subst this
    have e:∀ n:Nat,(List.replicate n ([]:List Nat)).flatten= []:=fun n=>by induction n with
     | zero=>rfl
     | succ n ih=>rw [List.replicate_succ,List.flatten_cons,ih];rfl
    rw [e]
   ·rw [if_neg (by simp [h2,h3])]
    have:=foldl_app a k.toNat []
    rw [List.nil_append] at this
    show (⟨_⟩:Str)=⟨_⟩
    congr 1
theorem prim_mul{K:PySem.W.Frag}{T:Tab}:Prim2 K T rMulA pMul:=by
 intro F m h H x y p q Q Ew R rp rq w
 unfold pMul at w
 split at w
 ·cases rp;cases rq
  split at w
  ·rename_i hc
   exact .inl ⟨_,_,rfl,rfl,(by
    unfold mulC at hc
    rw [Bool.or_eq_true,bel_iff,bel_iff] at hc
    exact hc),post_ok w R (.int _)⟩
  ·exact w.elim
 ·rename_i a k
  cases rp;cases rq
  split at w
  ·rename_i hc
   obtain ⟨h12,h3⟩:=hc
   obtain ⟨h1,h2⟩:=bel_iff.mp h12
   refine .inr (.inl ⟨_,_,rfl,rfl,⟨?_,fun g1 g2=>?_,fun g1 g2=>?_⟩,by rw [S_mul];exact post_ok w R (.str _)⟩)
   ·simp;omega
   ·have hl:((S a).length:Int)≤2 ^ 20:=by
     rw [S_len]
     have:a.length * 1≤a.length * k.toNat:=Nat.mul_le_mul_left _ (by omega)
     omega
    have:(2:Int) ^ 20≤(2 ^ 63 - 1) / k:=by
     rw [Int.le_ediv_iff_mul_le (by omega)]
     have:(2:Int) ^ 20 * k≤2 ^ 20 * 2 ^ 20:=Int.mul_le_mul_of_nonneg_left (by omega) (by decide)
     omega
    omega
   ·rw [S_len]
    unfold Builtin.Str.tooLong
    simp
    have:(2:Nat) ^ 20≤sizeLine:=by decide
    omega
  ·exact w.elim
 ·rename_i k hs hi
  cases rq
  split at w
  ·rename_i xs e
   split at w
   ·rename_i hc
    obtain ⟨h12,h3⟩:=hc
    obtain ⟨h1',h2'⟩:=bel_iff.mp h12
    have h1: -(2 ^ 63)≤k:=by omega
    have h2:k<2 ^ 63:=by omega
    obtain ⟨a,vs,rfl,ea,ra⟩:=lsM_rep R rp e
    have rr:∀ n:Nat,RepVs K T F m (List.replicate n xs).flatten (List.replicate n vs).flatten:=fun n=>by
     induction n with
     | zero=>exact .nil
     | succ n ih=>rw [List.replicate_succ,List.replicate_succ,List.flatten_cons,List.flatten_cons];exact ra.append ih
    exact .inr (.inr ⟨a,k,vs,rfl,rfl,ea,h1,h2,by rw [← ra.length];exact h3,post_lst w R (rr _)⟩)
   ·exact w.elim
  ·exact w.elim
 ·exact w.elim
section
variable {X:Cx} {T:Tab} {Ew:VK} {a b:Expr} {fa fb:Ex} {pos:Pos}
theorem re_sub(ha:RE X T Ew a fa)(hb:RE X T Ew b fb):RE X T Ew (.BinOp a .Sub b pos) (c2 pSub fa fb):=by with_unfolding_all exact (
  re_op op_sub prim_sub ha hb)
theorem re_mul(ha:RE X T Ew a fa)(hb:RE X T Ew b fb):RE X T Ew (.BinOp a .Mult b pos) (c2 pMul fa fb):=by with_unfolding_all exact (
  re_op op_mulA prim_mul ha hb)
theorem re_mod(ha:RE X T Ew a fa)(hb:RE X T Ew b fb):RE X T Ew (.BinOp a .Mod b pos) (c2 pMod fa fb):=by with_unfolding_all exact (
  re_op op_mod (prim_I fun i j h=>of_decide_eq_true h) ha hb)
theorem re_fdiv(ha:RE X T Ew a fa)(hb:RE X T Ew b fb):RE X T Ew (.BinOp a .FloorDiv b pos) (c2 pDiv fa fb):=by with_unfolding_all exact (
  re_op op_fdiv (prim_I fun i j h=>(by have z:=of_decide_eq_true h;exact z)) ha hb)
theorem re_pow(ha:RE X T Ew a fa)(hb:RE X T Ew b fb):RE X T Ew (.BinOp a .Pow b pos) (c2 pPow fa fb):=by with_unfolding_all exact (
  re_op op_pow (prim_I fun i j h=>(by have z:=of_decide_eq_true h;exact z)) ha hb)
def pNeg(p:PV)(h:List PO):Res PV:=match p with
 | .int i=>.ok (.int (-i)) h
 | _=>.bad
theorem re_neg(ha:RE X T Ew a fa):RE X T Ew (.UnaryOp .USub a pos) (c1 pNeg fa):=by with_unfolding_all exact (
  re_un un_neg (by
 intro F m h H x p Q Ew R rp w
 unfold pNeg at w
 split at w
 ·cases rp;exact ⟨_,rfl,post_ok w R (.int _)⟩
 ·exact w.elim) ha)
end
end L3
namespace L3
open PySem PySem.Spec PyProof.Rows L2
mutual
inductive RdD(K:PySem.W.Frag)(H:Hp):V→PyData→Prop where
 | non:RdD K H .non .none
 | bl (b:Bool):RdD K H (.bl b) (.bool b)
 | int (i:Int):RdD K H (.int i) (.int i)
 | str (x:Str):RdD K H (.str x) (.str x)
 | lst {a:Addr} {vs:List V} {ds:List PyData} (e:SqL K H a vs) (r:RdDs K H vs ds):RdD K H (.ref a) (.list ds)
 | tup {a:Addr} {vs:List V} {ds:List PyData} (e:SqT K H a vs) (r:RdDs K H vs ds):RdD K H (.ref a) (.tuple ds)
inductive RdDs(K:PySem.W.Frag)(H:Hp):List V→List PyData→Prop where
 | nil:RdDs K H [] []
 | cons {v:V} {d:PyData} {vs:List V} {ds:List PyData} (r:RdD K H v d) (t:RdDs K H vs ds):RdDs K H (v::vs) (d::ds)
end
section
variable {X:Cx} {pins:List (Addr×Obj)} {σ:St} {H:Hp} {s:Shared}
mutual
theorem RdD.reads(I:Inv X pins σ H s):∀ {x:V} {d:PyData} {u:Value},RdD X.K H x d→RelV x u→∃ as,Reads s.heap u d as
 | _,_,_,.non,r=>by cases r;exact ⟨_,.none⟩
 | _,_,_,.bl b,r=>by cases r;exact ⟨_,.bool b⟩
 | _,_,_,.int i,r=>by obtain ⟨t,rfl⟩:=r;exact ⟨_,.int i t⟩
 | _,_,_,.str x,r=>by obtain ⟨t,rfl⟩:=r;exact ⟨_,.str x t⟩
 | _,_,_,.lst e rr,r=>by
  cases r
  obtain ⟨its,rv,⟨o,n,h1,h2,h3,h4⟩,_⟩:=I.list e
  obtain ⟨as,ra⟩:=RdDs.reads I rr rv
  exact ⟨_,.list h1 h2 h4 (by simpa using ra)⟩
 | _,_,_,.tup e rr,r=>by
  cases r
  obtain ⟨its,rv,⟨o,h1,h2,n,h4⟩,_⟩:=I.tuple e
  obtain ⟨as,ra⟩:=RdDs.reads I rr rv
  exact ⟨_,.tuple h1 h2 h4 (by simpa using ra)⟩
theorem RdDs.reads(I:Inv X pins σ H s):∀ {xs:List V} {ds:List PyData} {us:List Value},RdDs X.K H xs ds→Vals xs us→∃ as,ReadsAll s.heap us ds as
 | _,_,_,.nil,r=>by cases r;exact ⟨_,.nil⟩
 | _,_,_,.cons q t,r=>by
  cases r with
  | cons r1 r2=>
   obtain ⟨as,ra⟩:=RdD.reads I q r1
   obtain ⟨bs,rb⟩:=RdDs.reads I t r2
   exact ⟨_,.cons ra rb⟩
end
end
mutual
def toD:PV→PyData
 | .non=>.none
 | .bl b=>.bool b
 | .int i=>.int i
 | .str l=>.str (S l)
 | .tup xs=>.tuple (toDs xs)
 | .lst xs=>.list (toDs xs)
 | .giv xs=>.list (toDs xs)
 | _=>.dict []
def toDs:List PV→List PyData
 | []=> []
 | x::r=>toD x::toDs r
end
theorem toDs_map:∀ l:List PV,toDs l=l.map toD
 | []=>by simp [toDs]
 | x::r=>by simp [toDs,toDs_map r]
def dOf(h:List PO):PV→PyData
 | .ref i=>match h[i]? with
  | some (.lst xs)=>.list (toDs xs)
  | _=>.dict []
 | p=>toD p
section
variable {K:PySem.W.Frag} {T:Tab} {F H:Hp} {m:List Addr}
mutual
theorem RepV.rd(sm:Same F H):∀ {p:PV} {x:V},RepV K T F m p x→(toD p).canLay0=true→RdD K H x (toD p)
 | _,_,.non,_=>by simp only [toD];exact .non
 | _,_,.bl b,_=>by simp only [toD];exact .bl b
 | _,_,.int i,_=>by simp only [toD];exact .int i
 | _,_,.str x,_=>by simp only [toD];exact .str _
 | _,_,.ty n,h=>by simp [toD,PyData.canLay0] at h
 | _,_,.cls c,h=>by simp [toD,PyData.canLay0] at h
 | _,_,.tup e r,h=>by
  simp only [toD] at h ⊢
  exact .tup (sm.seqT e) (RepVs.rd sm r (by simpa [PyData.canLay0] using h))
 | _,_,.lst e r,h=>by
  simp only [toD] at h ⊢
  exact .lst (SqL.of (sm _ _ e)) (RepVs.rd sm r (by simpa [PyData.canLay0] using h))
 | _,_,.giv e r,h=>by
  simp only [toD] at h ⊢
  exact .lst (sm.seq e) (RepVs.rd sm r (by simpa [PyData.canLay0] using h))
 | _,_,.dct e k r,h=>by simp [toD,PyData.canLay0] at h
 | _,_,.ins c e d k r,h=>by simp [toD,PyData.canLay0] at h
 | _,_,.ref e,h=>by simp [toD,PyData.canLay0] at h
theorem RepVs.rd(sm:Same F H):∀ {p:List PV} {x:List V},RepVs K T F m p x→PyData.canLayAll0 (toDs p)=true→RdDs K H x (toDs p)
 | _,_,.nil,_=>by simp only [toDs];exact .nil
 | _,_,.cons r t,h=>by
  simp only [toDs,PyData.canLayAll0,Bool.and_eq_true] at h ⊢
  exact .cons (RepV.rd sm r h.1) (RepVs.rd sm t h.2)
end
theorem RepV.rdH{h:List PO}(R:RelH K T F m h H){p:PV}{x:V}(r:RepV K T F m p x)(c:(dOf h p).canLay0=true):RdD K H x (dOf h p):=by
 by_cases hr:∃ i,p= .ref i
 ·obtain ⟨i,rfl⟩:=hr
  cases r with
  | @ref _ a e=>
   have c':(match h[i]? with | some (.lst xs)=>PyData.list (toDs xs) | _=>.dict []).canLay0=true:=c
   show RdD K H (.ref a) (match h[i]? with | some (.lst xs)=>PyData.list (toDs xs) | _=>.dict [])
   cases q:h[i]? with
   | none=>rw [q] at c';simp [PyData.canLay0] at c'
   | some o=>
    rw [q] at c'
    cases o with
    | lst xs=>
     obtain ⟨_,vs,e1,rr⟩:=R.obj i _ a q e
     exact .lst (SqL.of e1) (RepVs.rd R.same rr (by simpa [PyData.canLay0] using c'))
    | dct _=>simp [PyData.canLay0] at c'
    | froz _=>simp [PyData.canLay0] at c'
 ·have e:dOf h p=toD p:=by
   unfold dOf
   split
   ·exact absurd ⟨_,rfl⟩ hr
   ·rfl
  rw [e] at c ⊢
  exact RepV.rd R.same r c
end
def okD(h:List PO)(p:PV):Bool:=(dOf h p).canLay0&&decide ((dOf h p).depth≤60)
def pEq(p q:PV)(h:List PO):Res PV:=if okD h p=true∧okD h q=true then .ok (.bl (PyData.eqv (dOf h p) (dOf h q))) h else .bad
def pNe(p q:PV)(h:List PO):Res PV:=if okD h p=true∧okD h q=true then .ok (.bl (!PyData.eqv (dOf h p) (dOf h q))) h else .bad
def rEqD(K:PySem.W.Frag)(neg:Bool):R2:=fun x y H Q=>∃ d e,RdD K H x d∧RdD K H y e∧d.canLay0=true∧e.canLay0=true∧d.depth≤60∧Q (.bl (if neg then !PyData.eqv d e else PyData.eqv d e)) H
section
variable {X:Cx} {T:Tab} {Ew:VK} {a b:Expr} {fa fb:Ex} {pos:Pos}
theorem op_eqD(hu:X.A.units+64<cLine):OpR X (compareOp .Eq) (rEqD X.K false):=by
 intro pins s σ H x y v u Q I rx ry h
 obtain ⟨d,e,h1,h2,c1,c2,dp,q⟩:=h
 obtain ⟨as,ra⟩:=h1.reads I rx
 obtain ⟨bs,rb⟩:=h2.reads I ry
 exact SeqAt.compareEq_reads ra rb c1 c2 (by have:=Nat.min_le_left d.depth e.depth;omega) ⟨.bl _,H,I,rfl,q⟩
theorem op_neD(hu:X.A.units+64<cLine):OpR X (compareOp .NotEq) (rEqD X.K true):=by
 intro pins s σ H x y v u Q I rx ry h
 obtain ⟨d,e,h1,h2,c1,c2,dp,q⟩:=h
 obtain ⟨as,ra⟩:=h1.reads I rx
 obtain ⟨bs,rb⟩:=h2.reads I ry
 exact SeqAt.compareNe_reads ra rb c1 c2 (by have:=Nat.min_le_left d.depth e.depth;omega) ⟨.bl _,H,I,rfl,q⟩
theorem prim_eq{K:PySem.W.Frag}{T:Tab}:Prim2 K T (rEqD K false) pEq:=by
 intro F m h H x y p q Q Ew R rp rq w
 unfold pEq at w
 split at w
 ·rename_i hc
  unfold okD at hc
  simp only [Bool.and_eq_true,decide_eq_true_eq] at hc
  exact ⟨_,_,rp.rdH R hc.1.1,rq.rdH R hc.2.1,hc.1.1,hc.2.1,hc.1.2,post_ok w R (.bl _)⟩
 ·exact w.elim
theorem prim_ne{K:PySem.W.Frag}{T:Tab}:Prim2 K T (rEqD K true) pNe:=by
 intro F m h H x y p q Q Ew R rp rq w
 unfold pNe at w
 split at w
 ·rename_i hc
  unfold okD at hc
  simp only [Bool.and_eq_true,decide_eq_true_eq] at hc
  exact ⟨_,_,rp.rdH R hc.1.1,rq.rdH R hc.2.1,hc.1.1,hc.2.1,hc.1.2,post_ok w R (.bl _)⟩
 ·exact w.elim
def pCmp(g:Int→Int→Bool)(p q:PV)(h:List PO):Res PV:=match p,q with
 | .int i,.int j=>.ok (.bl (g i j)) h
 | _,_=>.bad
theorem prim_cmp{K:PySem.W.Frag}{T:Tab}{g:Int→Int→Bool}:Prim2 K T (rI0 fun i j=>.bl (g i j)) (pCmp g):=by
 intro F m h H x y p q Q Ew R rp rq w
 unfold pCmp at w
 split at w
 ·cases rp;cases rq;exact ⟨_,_,rfl,rfl,post_ok w R (.bl _)⟩
 ·exact w.elim
abbrev pLt:=pCmp fun i j=>decide (i<j)
abbrev pLe:=pCmp fun i j=>decide (i≤j)
abbrev pGt:=pCmp fun i j=>decide (j<i)
end
def firstFrom(y x:List Nat)(lo:Nat):Option Nat:=(List.range (x.length+1)).find? fun i=>decide (lo≤i)&&y.isPrefixOf (x.drop i)
theorem subAt_iff(x y:List Nat)(i:Nat)(hi:i+y.length≤x.length):Builtin.Str.subAt (S x) (S y) i=y.isPrefixOf (x.drop i):=by
 unfold Builtin.Str.subAt
 rw [S_len]
 rw [Bool.eq_iff_iff,beq_iff_eq,List.isPrefixOf_iff_prefix]
 have e:(S x).cps.extract i (i+y.length)=((x.drop i).take y.length).toArray:=by
  apply Array.toList_inj.mp
  simp [S,List.extract_eq_drop_take]
 rw [e]
 show ((x.drop i).take y.length).toArray=(S y).cps↔_
 constructor
 ·intro h
  have h':(x.drop i).take y.length=y:=by simpa [S] using congrArg Array.toList h
  refine ⟨(x.drop i).drop y.length,?_⟩
  have q:=List.take_append_drop y.length (x.drop i)
  rw [h'] at q
  exact q
 ·rintro ⟨t,ht⟩
  rw [← ht,List.take_left];rfl
theorem at_iff(x y:List Nat)(i:Nat):StrLaws.At (S x) (S y) (S x).length i↔i≤x.length∧y.isPrefixOf (x.drop i)=true:=by
 unfold StrLaws.At
 rw [S_len,S_len]
 constructor
 ·rintro ⟨h1,h2⟩
  rw [subAt_iff x y i h1] at h2
  exact ⟨by omega,h2⟩
 ·rintro ⟨h1,h2⟩
  have:i+y.length≤x.length:=by
   have:=(List.isPrefixOf_iff_prefix.mp h2).length_le
   rw [List.length_drop] at this
   omega
  exact ⟨this,by rw [subAt_iff x y i this];exact h2⟩
theorem occ_first1(x y:List Nat)(lo:Nat):Builtin.Str.occurrences (S x) (S y) lo (S x).length 1=(firstFrom y x lo).toList:=by
 have hlen:=StrLaws.occ_length_le (S x) (S y) lo (S x).length 1
 rcases StrLaws.occ_head_from (S x) (S y) lo 1 (Nat.le_refl _) with ⟨h0,hn⟩ | ⟨i,r,h0,hl,ha,hn⟩
 ·rw [h0]
  have:firstFrom y x lo=none:=by
   unfold firstFrom
   rw [List.find?_eq_none]
   intro i hi hc
   simp only [Bool.and_eq_true,decide_eq_true_eq] at hc
   exact hn i hc.1 ((at_iff x y i).mpr ⟨by have:=List.mem_range.mp hi;omega,hc.2⟩)
  rw [this];rfl
 ·rw [h0] at hlen ⊢
  have hr:r= []:=by cases r with
   | nil=>rfl
   | cons _ _=>simp at hlen
  subst hr
  obtain ⟨a1,a2⟩:=(at_iff x y i).mp ha
  have:firstFrom y x lo=some i:=by
   unfold firstFrom
   rw [List.find?_range_eq_some]
   refine ⟨by simp [hl,a2],by simp;omega,fun j hj=>?_⟩
   simp only [Bool.not_eq_true',Bool.and_eq_false_iff,decide_eq_false_iff_not]
   rcases Nat.lt_or_ge j lo with q | q
   ·exact .inl (by omega)
   ·right
    cases z:y.isPrefixOf (x.drop j) with
    | false=>rfl
    | true=>exact absurd ((at_iff x y j).mpr ⟨by omega,z⟩) (hn j q hj)
  rw [this];rfl
def inStr(y x:List Nat):Bool:=(firstFrom y x 0).isSome
theorem S_in(x y:List Nat):(!(Builtin.Str.occurrences (S x) (S y) 0 (S x).length 1).isEmpty)=inStr y x:=by
 rw [occ_first1]
 unfold inStr
 cases firstFrom y x 0<;>rfl
theorem inStr_one(c:Nat)(x:List Nat):inStr [c] x=x.contains c:=by
 unfold inStr firstFrom
 rw [Bool.eq_iff_iff,List.find?_isSome]
 simp only [List.mem_range,Bool.and_eq_true,decide_eq_true_eq,Nat.zero_le,true_and,List.contains_iff_mem]
 constructor
 ·rintro ⟨i,hi,hp⟩
  obtain ⟨t,ht⟩:=List.isPrefixOf_iff_prefix.mp hp
  have:c∈x.drop i:=by rw [← ht];simp
  exact List.mem_of_mem_drop this
 ·intro h
  obtain ⟨i,hi⟩:=List.mem_iff_getElem?.mp h
  have hlt:i<x.length:=by
   rcases Nat.lt_or_ge i x.length with q | q
   ·exact q
   ·rw [List.getElem?_eq_none q] at hi;cases hi
  refine ⟨i,by omega,List.isPrefixOf_iff_prefix.mpr ⟨x.drop (i+1),?_⟩⟩
  rw [List.getElem?_eq_getElem hlt,Option.some.injEq] at hi
  rw [← hi,List.singleton_append,← List.drop_eq_getElem_cons hlt]
def keyOf:PV→Option PK
 | .int i=>some (.inl i)
 | .str l=>some (.inr l)
 | _=>none
def valP(kvs:List (PK×PV))(k:PK):Option PV:=(kvs.find? fun kv=>decide (kv.1=k)).map (·.2)
theorem keyOf_rep{K:PySem.W.Frag}{T:Tab}{F:Hp}{m:List Addr}{p:PV}{x:V}{k:PK}(r:RepV K T F m p x)(e:keyOf p=some k):x=kV (tk k):=by
 cases r<;>simp [keyOf] at e<;>subst e<;>rfl
theorem valP_rep{K:PySem.W.Frag}{T:Tab}{F:Hp}{m:List Addr}:∀ {kps:List (PK×PV)} {kvs:List (Key×V)},kvs.map (·.1)=kps.map (fun p=>tk p.1)→RepVs K T F m (kps.map (·.2)) (kvs.map (·.2))→∀ k:PK,
  (∃ p v,valP kps k=some p∧valV kvs (tk k)=some v∧RepV K T F m p v)∨(valP kps k=none∧valV kvs (tk k)=none)
 | [],[],_,_,k=>.inr ⟨rfl,rfl⟩
 | [],_::_,h,_,_=>by simp at h
 | _::_,[],h,_,_=>by simp at h
 | (k1,p1)::kps,(k2,v2)::kvs,h,r,k=>by
  simp only [List.map_cons,List.cons.injEq] at h
  cases r with
  | cons r1 r2=>
   by_cases e:k1=k
   ·subst e
    exact .inl ⟨p1,v2,by simp [valP],by rw [valV_pos (p:=(k2,v2)) h.1],r1⟩
   ·have e2:¬ k2=tk k:=fun z=>e (tk_inj (h.1.symm.trans z))
    rw [valV_neg (p:=(k2,v2)) e2]
    have:valP ((k1,p1)::kps) k=valP kps k:=by simp [valP,e]
    rw [this]
    exact valP_rep h.2 r2 k
def pInB(p q:PV)(h:List PO):Option Bool:=match q with
 | .str b=>match p with
  | .str a=>some (inStr a b)
  | _=>none
 | q=>match dcR h q with
  | some kvs=>match keyOf p with
   | some k=>some (valP kvs k).isSome
   | none=>none
  | none=>match sqR h q with
   | some xs=>if okD [] p=true∧xs.all (okD [])=true then some (xs.any fun y=>PyData.eqv (toD y) (toD p)) else none
   | none=>none
def pIn(p q:PV)(h:List PO):Res PV:=match pInB p q h with
 | some b=>.ok (.bl b) h
 | none=>.bad
def pNotIn(p q:PV)(h:List PO):Res PV:=match pInB p q h with
 | some b=>.ok (.bl (!b)) h
 | none=>.bad
def rInA(K:PySem.W.Frag)(neg:Bool):R2:=fun x y H Q=>∃ b:Bool,Q (.bl (if neg then !b else b)) H∧
  ((∃ i j,x= .str i∧y= .str j∧b=!(Builtin.Str.occurrences j i 0 j.length 1).isEmpty)∨(∃ a o,y= .ref a∧DGet H a x o∧b=o.isSome)∨
   (∃ p xs d ds,y= .ref p∧(SqL K H p xs∨SqT K H p xs)∧RdD K H x d∧RdDs K H xs ds∧d.canLay0=true∧ds.all PyData.canLay0=true∧d.depth≤60∧b=ds.any fun e=>PyData.eqv e d))
section
variable {X:Cx} {T:Tab} {Ew:VK} {a b:Expr} {fa fb:Ex} {pos:Pos}
noncomputable def eqTo(h:Heap)(d:PyData)(y:Value):Bool:=open Classical in if q:∃ e as,Reads h y e as∧e.canLay0=true then PyData.eqv q.choose d else false
theorem eqTo_of{h:Heap}{d e:PyData}{y:Value}{as:List Addr}(r:Reads h y e as)(c:e.canLay0=true):eqTo h d y=PyData.eqv e d:=by
 have q:∃ e as,Reads h y e as∧e.canLay0=true:=⟨e,as,r,c⟩
 unfold eqTo
 rw [dif_pos q]
 obtain ⟨as',r',c'⟩:=q.choose_spec
 rw [SeqAt.Reads.unique _ _ _ _ _ c r r']
theorem any_eqTo{h:Heap}{d:PyData}:∀ {us:List Value} {ds:List PyData} {as:List Addr},ReadsAll h us ds as→ds.all PyData.canLay0=true→us.any (eqTo h d)=ds.any fun e=>PyData.eqv e d
 | _,_,_,.nil,_=>rfl
 | _,_,_,.cons r t,c=>by
  simp only [List.all_cons,Bool.and_eq_true] at c
  rw [List.any_cons,List.any_cons,eqTo_of r c.1,any_eqTo t c.2]
theorem mem_eqTo{A:Around}{s:Shared}{d:PyData}{v:Value}{bs:List Addr}(rv:Reads s.heap v d bs)(cd:d.canLay0=true)(hu:A.units+d.depth<cLine):
  ∀ {us:List Value} {ds:List PyData} {as:List Addr},ReadsAll s.heap us ds as→ds.all PyData.canLay0=true→∀ u∈us,SeqAt.EqAt A s u v (eqTo s.heap d u)
 | _,_,_,.nil,_=>fun u hu=>by cases hu
 | _,_,_,.cons r t,c=>fun u hu'=>by
  simp only [List.all_cons,Bool.and_eq_true] at c
  rcases List.mem_cons.mp hu' with rfl | hu'
  ·rw [eqTo_of r c.1]
   exact SeqAt.eqAt_reads _ _ A s _ _ _ _ r rv c.1 cd (by have:=Nat.min_le_right (PyData.depth ‹PyData›) d.depth;omega)
  ·exact mem_eqTo rv cd hu t c.2 u hu'
theorem op_inA(hu:X.A.units+64<cLine):OpR X (compareOp .In) (rInA X.K false):=by
 intro pins s σ H x y v u Q I rx ry h
 obtain ⟨b,q,h⟩:=h
 have fin:∀ s',Inv X pins σ H s'→EP X pins σ Q (.bool b) s':=fun s' I'=>⟨.bl b,H,I',rfl,q⟩
 rcases h with ⟨i,j,rfl,rfl,rfl⟩ | ⟨a,o,rfl,g,rfl⟩ | ⟨p,xs,d,ds,rfl,sq,rd,rds,c1,c2,dp,rfl⟩
 ·obtain ⟨t,rfl⟩:=rx
  obtain ⟨t',rfl⟩:=ry
  exact in_str (fin s I)
 ·cases ry
  exact d_in (by omega) I g rx fun s' I'=>fin s' I'
 ·cases ry
  obtain ⟨as,ra⟩:=rd.reads I rx
  rcases sq with hq | hq
  ·obtain ⟨its,r,pl,hz⟩:=I.list hq
   obtain ⟨bs,rb⟩:=rds.reads I r
   refine SeqAt.in_listAt (eqTo s.heap d) pl.isList (fun w hw=>mem_eqTo ra c1 (by show X.A.units+1+_<_;omega) rb c2 w (by simpa using hw)) ?_
   rw [show its.toArray.any (eqTo s.heap d)=its.any (eqTo s.heap d) by simp,any_eqTo rb c2]
   exact fin s I
  ·obtain ⟨its,r,pl,hz⟩:=I.tuple hq
   obtain ⟨bs,rb⟩:=rds.reads I r
   refine SeqAt.in_tupleAt (eqTo s.heap d) pl (fun w hw=>mem_eqTo ra c1 (by show X.A.units+1+_<_;omega) rb c2 w (by simpa using hw)) ?_
   rw [show its.toArray.any (eqTo s.heap d)=its.any (eqTo s.heap d) by simp,any_eqTo rb c2]
   exact fin s I
theorem op_notInA(hu:X.A.units+64<cLine):OpR X (compareOp .NotIn) (rInA X.K true):=by
 intro pins s σ H x y v u Q I rx ry h
 obtain ⟨b,q,h⟩:=h
 have fin:∀ s',Inv X pins σ H s'→EP X pins σ Q (.bool (!b)) s':=fun s' I'=>⟨.bl (!b),H,I',rfl,q⟩
 rcases h with ⟨i,j,rfl,rfl,rfl⟩ | ⟨a,o,rfl,g,rfl⟩ | ⟨p,xs,d,ds,rfl,sq,rd,rds,c1,c2,dp,rfl⟩
 ·obtain ⟨t,rfl⟩:=rx
  obtain ⟨t',rfl⟩:=ry
  exact notIn_str (fin s I)
 ·cases ry
  exact d_notIn (by omega) I g rx fun s' I'=>fin s' I'
 ·cases ry
  obtain ⟨as,ra⟩:=rd.reads I rx
  rcases sq with hq | hq
  ·obtain ⟨its,r,pl,hz⟩:=I.list hq
   obtain ⟨bs,rb⟩:=rds.reads I r
   refine SeqAt.notIn_listAt (eqTo s.heap d) pl.isList (fun w hw=>mem_eqTo ra c1 (by show X.A.units+1+_<_;omega) rb c2 w (by simpa using hw)) ?_
   rw [show its.toArray.any (eqTo s.heap d)=its.any (eqTo s.heap d) by simp,any_eqTo rb c2]
   exact fin s I
  ·obtain ⟨its,r,pl,hz⟩:=I.tuple hq
   obtain ⟨bs,rb⟩:=rds.reads I r
   refine SeqAt.notIn_tupleAt (eqTo s.heap d) pl (fun w hw=>mem_eqTo ra c1 (by show X.A.units+1+_<_;omega) rb c2 w (by simpa using hw)) ?_
   rw [show its.toArray.any (eqTo s.heap d)=its.any (eqTo s.heap d) by simp,any_eqTo rb c2]
   exact fin s I
theorem dOf_nil(p:PV):dOf [] p=toD p:=by
 unfold dOf
 split
 ·simp [toD]
 ·rfl
theorem canLayAll0_all:∀ l:List PyData,PyData.canLayAll0 l=l.all PyData.canLay0
 | []=>by simp [PyData.canLayAll0]
 | x::r=>by simp [PyData.canLayAll0,canLayAll0_all r]
theorem pInB_rep{K:PySem.W.Frag}{T:Tab}{F H:Hp}{m:List Addr}{h:List PO}{p q:PV}{x y:V}{k:Bool}(R:RelH K T F m h H)(rp:RepV K T F m p x)(rq:RepV K T F m q y)(e:pInB p q h=some k):
    (∃ i j,x= .str i∧y= .str j∧k=!(Builtin.Str.occurrences j i 0 j.length 1).isEmpty)∨(∃ a o,y= .ref a∧DGet H a x o∧k=o.isSome)∨
   (∃ p xs d ds,y= .ref p∧(SqL K H p xs∨SqT K H p xs)∧RdD K H x d∧RdDs K H xs ds∧d.canLay0=true∧ds.all PyData.canLay0=true∧d.depth≤60∧k=ds.any fun e=>PyData.eqv e d):=by
  unfold pInB at e
  split at e
  · rename_i b
    split at e
    · rename_i a
      cases rp;cases rq
      simp only [Option.some.injEq] at e;subst e
      exact .inl ⟨_,_,rfl,rfl,(S_in b a).symm⟩
    · cases e
  · split at e
    · rename_i kvs ed
      split at e
      · rename_i kk ek
        simp only [Option.some.injEq] at e;subst e
        obtain ⟨a,ws,rfl,rd,kq,rr⟩:=dcR_rep R rq ed
        have hx:=keyOf_rep rp ek
        subst hx
        refine .inr (.inl ⟨a,valV ws (tk kk),rfl,.inl ⟨ws,tk kk,rd,rfl,rfl⟩,?_⟩)
        rcases valP_rep kq rr kk with ⟨p1,v1,h1,h2,_⟩ | ⟨h1,h2⟩
        · rw [h1,h2];rfl
        · rw [h1,h2];rfl
      · cases e
    · split at e
      · rename_i xs es
        split at e
        · rename_i hc
          simp only [Option.some.injEq] at e;subst e
          obtain ⟨a,ws,rfl,sq,rr⟩:=sqR_rep R rq es
          have h1:(toD p).canLay0=true∧(toD p).depth≤60:=by
            have:=hc.1
            unfold okD at this
            simpa [dOf_nil] using this
          have h2:PyData.canLayAll0 (toDs xs)=true:=by
            rw [canLayAll0_all,toDs_map,List.all_map]
            rw [List.all_eq_true] at hc ⊢
            intro z hz
            have:=hc.2 z hz
            unfold okD at this
            rw [dOf_nil,Bool.and_eq_true] at this
            exact this.1
          refine .inr (.inr ⟨a,ws,toD p,toDs xs,rfl,sq,rp.rd R.same h1.1,rr.rd R.same h2,h1.1,by rw [← canLayAll0_all];exact h2,h1.2,?_⟩)
          rw [toDs_map,List.any_map];rfl
        · cases e
      · cases e
theorem prim_in{K:PySem.W.Frag}{T:Tab}:Prim2 K T (rInA K false) pIn:=by
 intro F m h H x y p q Q Ew R rp rq w
 unfold pIn at w
 split at w
 ·rename_i b e
  exact ⟨b,post_ok w R (.bl b),pInB_rep R rp rq e⟩
 ·exact w.elim
theorem prim_notIn{K:PySem.W.Frag}{T:Tab}:Prim2 K T (rInA K true) pNotIn:=by
 intro F m h H x y p q Q Ew R rp rq w
 unfold pNotIn at w
 split at w
 ·rename_i b e
  exact ⟨b,post_ok w R (.bl (!b)),pInB_rep R rp rq e⟩
 ·exact w.elim
end
end L3
namespace L3
open PySem PySem.Spec PyProof.Rows L2
def cut{α:Type}(xs:List α)(lo hi:Option Int):List α:=(xs.drop (HT.sIx xs.length 0 lo)).take (HT.sIx xs.length xs.length hi - HT.sIx xs.length 0 lo)
theorem strIx(lo hi:Option Int)(n:Nat):Builtin.Str.strSliceIndices lo hi 1 n=(List.range (HT.sIx n n hi - HT.sIx n 0 lo)).map (HT.sIx n 0 lo+ ·):=by
 rw [← sliceRange_one]
 unfold Builtin.Str.strSliceIndices
 have e1:∀ d:Nat,d≤n→∀ o:Option Int,(match o with | none=>(d:Int) | some i=>(if (1:Int)>0 then max 0 (min (if i<0 then i+(n:Int) else i) n) else max (-1) (min (if i<0 then i+(n:Int) else i) ((n:Int) - 1))))=((HT.sIx n d o:Nat):Int):=by
  intro d hd o
  cases o with
  | none=>rfl
  | some i=>
   simp only [show (1:Int)>0 by decide,if_true,HT.sIx]
   by_cases h:i<0
   ·simp only [h,if_true];omega
   ·simp only [h,if_false];omega
 have e2:=e1 0 (Nat.zero_le _) lo
 have e3:=e1 n (Nat.le_refl _) hi
 simp only [show (1:Int)>0 by decide,if_true] at e2 e3 ⊢
 rw [← e2,← e3]
 rfl
theorem S_slice(l:List Nat)(lo hi:Option Int):Txt.slice (S l) lo hi=S (cut l lo hi):=by
 unfold Txt.slice
 have hn:(S l).length=l.length:=S_len l
 rw [hn,strIx]
 have hlo:=HT.sIx_le l.length 0 (Nat.zero_le _) lo
 have hhi:=HT.sIx_le l.length l.length (Nat.le_refl _) hi
 split
 ·rename_i h
  have h':HT.sIx l.length l.length hi - HT.sIx l.length 0 lo=l.length:=by
   simpa using h
  have e0:HT.sIx l.length 0 lo=0:=by omega
  unfold cut
  rw [h',e0]
  simp
 ·rw [pick_run]
  show (⟨_⟩:Str)=⟨_⟩
  unfold cut
  simp [S]
section
variable {K:PySem.W.Frag} {T:Tab} {F H:Hp} {m:List Addr} {h:List PO}
theorem RepVs.cut{ps:List PV}{vs:List V}(r:RepVs K T F m ps vs)(lo hi:Option Int):RepVs K T F m (cut ps lo hi) (cutV vs lo hi):=by
 unfold L3.cut L2.cutV
 rw [← r.length]
 exact (r.drop _).take _
end
def pIx(p q:PV)(h:List PO):Res PV:=match p,q with
 | .str l,.int i=>match atI l i with
  | some c=>if l.length≤sizeLine then .ok (.str [c]) h else .bad
  | none=>.bad
 | .tup xs,.int i=>match atI xs i with
  | some v=>.ok (derefP h v) h
  | none=>.bad
 | p,q=>match dcR h p with
  | some kvs=>match keyOf q with
   | some k=>match valP kvs k with
    | some v=>.ok (derefP h v) h
    | none=>.bad
   | none=>.bad
  | none=>match lsR h p with
   | some xs=>match q with
    | .int i=>match atI xs i with
     | some v=>.ok (derefP h v) h
     | none=>.bad
    | _=>.bad
   | none=>.bad
def rIxA(K:PySem.W.Frag):R2:=fun x y H Q=>rIx K x y H Q∨∃ a v,x= .ref a∧DGet H a y (some v)∧Q v H
theorem prim_ix{K:PySem.W.Frag}{T:Tab}:Prim2 K T (rIxA K) pIx:=by
 intro F m h H x y p q Q Ew R rp rq w
 unfold pIx at w
 split at w
 ·rename_i l i
  cases rp;cases rq
  split at w
  ·rename_i c e
   split at w
   ·rename_i hz
    exact .inl (.inr (.inr ⟨_,_,c,rfl,rfl,by rw [S_len];exact hz,by rw [S_cps];exact e,post_ok w R (.str [c])⟩))
   ·exact w.elim
  ·exact w.elim
 ·rename_i xs i
  cases rq
  split at w
  ·rename_i v e
   obtain ⟨a,vs,rfl,ea,ra⟩:=tup_rep R rp
   obtain ⟨u,eu,ru⟩:=ra.at e
   exact .inl (.inr (.inl ⟨a,vs,i,u,rfl,rfl,ea,eu,post_ok w R (R.deref ru)⟩))
  ·exact w.elim
 ·split at w
  ·rename_i kvs ed
   split at w
   ·rename_i k ek
    split at w
    ·rename_i v ev
     obtain ⟨a,ws,rfl,rd,kq,rr⟩:=dcR_rep R rp ed
     have hy:=keyOf_rep rq ek
     subst hy
     rcases valP_rep kq rr k with ⟨p1,v1,h1,h2,r1⟩ | ⟨h1,h2⟩
     ·rw [ev] at h1;cases h1
      exact .inr ⟨a,v1,rfl,.inl ⟨ws,tk k,rd,rfl,h2.symm⟩,post_ok w R (R.deref r1)⟩
     ·rw [ev] at h1;cases h1
    ·exact w.elim
   ·exact w.elim
  ·split at w
   ·rename_i xs el
    split at w
    ·cases rq
     split at w
     ·rename_i v e
      obtain ⟨a,vs,rfl,ea,ra⟩:=lsR_rep R rp el
      obtain ⟨u,eu,ru⟩:=ra.at e
      exact .inl (.inl ⟨a,vs,_,u,rfl,rfl,ea,eu,post_ok w R (R.deref ru)⟩)
     ·exact w.elim
    ·exact w.elim
   ·exact w.elim
section
variable {X:Cx} {T:Tab} {Ew:VK} {a b:Expr} {fa fb:Ex} {pos:Pos}
theorem ix_dict(hu:X.A.units+1<cLine):IxR X (fun x y H Q=>∃ a v,x= .ref a∧DGet H a y (some v)∧Q v H):=by
 intro value slice pins s σ H x y v u Q I rx ry q hs
 obtain ⟨a,v1,rfl,g,q⟩:=q
 cases rx
 have hT:=dict_typeIs I g
 unfold subscriptTail
 refine wpAny_bind ?_
 rw [getitemInPython_of_ne hT.not_modules]
 refine wpAny_bind (wpAny_specialOf hT PySem.F.slot_dict_getitem.lookup ?_)
 have fin:wpAny (model X.prog X.w) X.A (subscripted slice false (.ref a) u) (fun r s₃=>wpAny (model X.prog X.w) X.A (letTemporaryGo value (.ref a) r >>= fun _=>pure r) (EP X pins σ Q) X.xe s₃) X.xe s:=by
  rw [hs]
  exact wpAny_operating (wpAny_mono (d_getItem (E:=X.xe) hu I g ry fun w' s3 I3 rw'=>show EP X pins σ Q w' s3 from ⟨v1,H,I3,rw',q⟩) (fun r s₃ h₃=>wpAny_bind (wpAny_letTemporaryGo (wpAny_pure h₃))) fun _ _ x=>x)
 first
  | exact wpAny_pure (wpAny_bind fin)
  | exact wpAny_bind (wpAny_pure (wpAny_bind fin))
  | exact wpAny_bind fin
theorem re_ix(hu:X.A.units+64<cLine)(ha:RE X T Ew a fa)(hb:RE X T Ew b fb)(hs:∀ o i,subscripted b false o i=operate [o,i] (getItem o i):=by intro _ _;rfl):RE X T Ew (.Subscript a b pos) (c2 pIx fa fb):=by with_unfolding_all exact (
 PE.imp (pe_ix (IxR.or ix_seq (ix_dict (by omega))) ha hb hs) fun σ H Q w=>w2 prim_ix w)
abbrev Ox:=Ev→List PO→Res (Option Int)
@[irreducible] def RO(X:Cx)(T:Tab)(Ew:VK)(e:Option Expr)(f:Ox):Prop:=L2.PO X e (fun σ H Q=>∃ F m ρ h,RelS X.K T F m ρ h σ H∧Post X.K T (fun _ _ (a b:Option Int)=>a=b) F m H Q Ew (f ρ h))
def oNone:Ox:=fun _ h=>.ok none h
def oSome(f:Ex):Ox:=fun ρ h=>(f ρ h).bind fun p h1=>match p with
 | .int i=>.ok (some i) h1
 | _=>.bad
theorem ro_none:RO X T Ew none oNone:=by with_unfolding_all exact (
  fun pins s σ H Q I ⟨F,m,ρ,h,R,p⟩=>po_none pins s σ H Q I (Post.here p R.toRelH rfl))
theorem ro_some{e:Expr}{f:Ex}(he:RE X T Ew e f):RO X T Ew (some e) (oSome f):=by with_unfolding_all exact (
  fun pins s σ H Q I ⟨F,m,ρ,h,R,p⟩=>by
 refine po_some he pins s σ H Q I ⟨F,m,ρ,h,R,(Post.bind p).mono fun x H1 ⟨F1,m1,h1,a,s1,R1,ra,p1⟩=>?_⟩
 cases ra with
 | int i=>exact ⟨i,rfl,Post.here p1 R1 rfl⟩
 | _=>exact p1.elim)
def pSl(p:PV)(lo hi:Option Int)(h:List PO):Res PV:=match p with
 | .str l=>if l.length≤sizeLine then .ok (.str (cut l lo hi)) h else .bad
 | .tup xs=>if HT.sIx xs.length 0 lo=0∧HT.sIx xs.length xs.length hi=xs.length then .bad else .ok (.tup (cut xs lo hi)) h
 | p=>match lsR h p with
  | some xs=>.ok (.lst (cut xs lo hi)) h
  | none=>.bad
def rSlA(K:PySem.W.Frag):V→Option Int→Option Int→Hp→VK→Prop:=fun x l u H Q=>rSlS x l u H Q∨rSlT K x l u H Q∨rSlL K x l u H Q
theorem prim_sl{K:PySem.W.Frag}{F H:Hp}{m:List Addr}{h:List PO}{Q:VK}{p:PV}{x:V}{lo hi:Option Int}(R:RelH K T F m h H)(rp:RepV K T F m p x)(w:Post K T (RepV K T) F m H Q Ew (pSl p lo hi h)):rSlA K x lo hi H Q:=by
 unfold pSl at w
 split at w
 ·cases rp
  split at w
  ·rename_i hz
   exact .inl ⟨_,rfl,by rw [S_len];exact hz,by rw [S_slice];exact post_ok w R (.str _)⟩
  ·exact w.elim
 ·rename_i xs
  split at w
  ·exact w.elim
  ·rename_i hz
   obtain ⟨a,vs,rfl,ea,ra⟩:=tup_rep R rp
   exact .inr (.inl ⟨a,vs,rfl,ea,by rw [← ra.length];exact hz,post_tup w R (ra.cut lo hi)⟩)
 ·split at w
  ·rename_i xs el
   obtain ⟨a,vs,rfl,ea,ra⟩:=lsR_rep R rp el
   exact .inr (.inr ⟨a,vs,rfl,ea,post_lst w R (ra.cut lo hi)⟩)
  ·exact w.elim
def cSl(a:Ex)(lo hi:Ox):Ex:=fun ρ h=>(a ρ h).bind fun p h1=>(lo ρ h1).bind fun l h2=>(hi ρ h2).bind fun u h3=>pSl p l u h3
theorem re_slice{lo hi:Option Expr}{fl fu:Ox}{p2:Pos}(ha:RE X T Ew a fa)(hl:RO X T Ew lo fl)(hh:RO X T Ew hi fu):RE X T Ew (.Subscript a (.Slice lo hi none p2) pos) (cSl fa fl fu):=by with_unfolding_all
 refine PE.imp (pe_slice (L2.SlR.or sl_str (L2.SlR.or sl_tup sl_list)) ha hl hh) fun σ H Q ⟨F,m,ρ,h,R,p⟩=>?_
 refine ⟨F,m,ρ,h,R,(Post.bind p).mono fun x H1 ⟨F1,m1,h1,p1,s1,R1,r1,w1⟩=>?_⟩
 refine ⟨F1,m1,ρ,h1,R.of s1 R1,(Post.bind w1).mono fun l H2 ⟨F2,m2,h2,l2,s2,R2,e2,w2⟩=>?_⟩
 subst e2
 refine ⟨F2,m2,ρ,h2,(R.of s1 R1).of s2 R2,(Post.bind w2).mono fun u H3 ⟨F3,m3,h3,u3,s3,R3,e3,w3⟩=>?_⟩
 subst e3
 exact prim_sl R3 (s3.rep (s2.rep r1)) w3
theorem re_callB{x:Str}{id:String}{r:List V→Hp→VK→Prop}{g:List PV→List PO→Res PV}{e:Expr}{es:List Expr}{f:Ax}{p:Pos}(hc:CallR X (.builtin id) r)(P:PrimN X.K T r g)(hg:Gl X x)(hm:X.mg x=none)(hv:bootBuiltins x=some (.builtin id))
  (ha:RA X T Ew (e::es) f) (hn:x≠"__name__":=by decide) (hdb:(x==("__debug__":Str))=false:=by decide) (he:starEach (e::es) X.env=(false,eval e X.env)::starEach es X.env:=by rfl) (hpl:(backTo pos (starEach es X.env)).any (·.1)=false:=by rfl):
  RE X T Ew (.Call (.Name x p) (e::es) [] pos) (cN g f):=by with_unfolding_all exact (
  PE.imp (pe_callB hc hg hm hv ha hn hdb he hpl) fun σ H Q w=>wN P w)
theorem re_callTy{x:Str}{id:String}{r:List V→Hp→VK→Prop}{g:List PV→List PO→Res PV}{e:Expr}{es:List Expr}{f:Ax}{p:Pos}(hc:CallR X (.type id) r)(P:PrimN X.K T r g)(hg:Gl X x)(hm:X.mg x=none)(hv:bootBuiltins x=some (.type id))
  (ha:RA X T Ew (e::es) f) (hn:x≠"__name__":=by decide) (hdb:(x==("__debug__":Str))=false:=by decide) (he:starEach (e::es) X.env=(false,eval e X.env)::starEach es X.env:=by rfl) (hpl:(backTo pos (starEach es X.env)).any (·.1)=false:=by rfl):
  RE X T Ew (.Call (.Name x p) (e::es) [] pos) (cN g f):=by with_unfolding_all exact (
  PE.imp (pe_callTy hc hg hm hv ha hn hdb he hpl) fun σ H Q w=>wN P w)
def lenP(h:List PO)(p:PV):Option Nat:=match p with
 | .str l=>if l.length≤sizeLine then some l.length else none
 | p=>match dcR h p with
  | some kvs=>some kvs.length
  | none=>match sqR h p with
   | some xs=>some xs.length
   | none=>none
def pLen(ps:List PV)(h:List PO):Res PV:=match ps with
 | [p]=>match lenP h p with
  | some n=>.ok (.int n) h
  | none=>.bad
 | _=>.bad
theorem call_lenR{X:Cx}:CallR X (.builtin "len") (fun xs H Q=>∃ a kvs,xs= [V.ref a]∧Rd H a (.dK kvs)∧Q (.int kvs.length) H):=by
 intro pins s σ H xs us Q I r h
 obtain ⟨a,kvs,rfl,ha,q⟩:=h
 obtain ⟨u,rfl,ru⟩:=vals1 r
 cases ru
 exact d_len I ha fun t s' I'=>⟨.int kvs.length,H,I',⟨t,rfl⟩,q⟩
theorem call_lenA{X:Cx}:CallR X (.builtin "len") (fun xs H Q=>(∃ p ys,xs= [.ref p]∧(SqL X.K H p ys∨SqT X.K H p ys)∧Q (.int ys.length) H)∨(∃ z,xs= [.str z]∧z.length≤sizeLine∧Q (.int z.length) H)∨∃ a kvs,xs= [V.ref a]∧Rd H a (.dK kvs)∧Q (.int kvs.length) H):=
 CallR.or call_len_seq (CallR.or call_len_str call_lenR)
theorem RepVs.one{K:PySem.W.Frag}{F:Hp}{m:List Addr}{p:PV}{xs:List V}(r:RepVs K T F m [p] xs):∃ x,xs= [x]∧RepV K T F m p x:=by
 cases r with
 | cons r t=>cases t;exact ⟨_,rfl,r⟩
theorem RepVs.two{K:PySem.W.Frag}{F:Hp}{m:List Addr}{p q:PV}{xs:List V}(r:RepVs K T F m [p,q] xs):∃ x y,xs= [x,y]∧RepV K T F m p x∧RepV K T F m q y:=by
 cases r with
 | cons r t=>cases t with
  | cons r2 t2=>cases t2;exact ⟨_,_,rfl,r,r2⟩
theorem prim_len{K:PySem.W.Frag}{T:Tab}:PrimN K T (fun xs H Q=>(∃ p ys,xs= [.ref p]∧(SqL K H p ys∨SqT K H p ys)∧Q (.int ys.length) H)∨(∃ z,xs= [.str z]∧z.length≤sizeLine∧Q (.int z.length) H)∨∃ a kvs,xs= [V.ref a]∧Rd H a (.dK kvs)∧Q (.int kvs.length) H) pLen:=by
 intro F m h H xs ps Q Ew R rp w
 unfold pLen at w
 split at w
 ·rename_i p
  obtain ⟨x,rfl,rx⟩:=rp.one
  split at w
  ·rename_i n e
   unfold lenP at e
   split at e
   ·cases rx
    split at e
    ·rename_i hz
     simp only [Option.some.injEq] at e;subst e
     exact .inr (.inl ⟨_,rfl,by rw [S_len];exact hz,by rw [S_len];exact post_ok w R (.int _)⟩)
    ·cases e
   ·split at e
    ·rename_i kvs ed
     simp only [Option.some.injEq] at e;subst e
     obtain ⟨a,ws,rfl,rd,kq,rr⟩:=dcR_rep R rx ed
     have hl:ws.length=kvs.length:=by have:=congrArg List.length kq;simpa using this
     exact .inr (.inr ⟨a,ws,rfl,rd,by rw [hl];exact post_ok w R (.int _)⟩)
    ·split at e
     ·rename_i ys es
      simp only [Option.some.injEq] at e;subst e
      obtain ⟨a,ws,rfl,sq,rr⟩:=sqR_rep R rx es
      exact .inl ⟨a,ws,rfl,sq,by rw [← rr.length];exact post_ok w R (.int _)⟩
     ·cases e
  ·exact w.elim
 ·exact w.elim
def tyName(h:List PO):PV→Option String
 | .non=>some "NoneType"
 | .bl _=>some "bool"
 | .int _=>some "int"
 | .str _=>some "str"
 | .tup _=>some "tuple"
 | p=>match dcR h p with
  | some _=>some "dict"
  | none=>match lsR h p with
   | some _=>some "list"
   | none=>none
def subTy(t c:String):Bool:=(t==c)||(t=="bool"&&c=="int")
def isTys:List String:= ["str","int","bool","list","tuple","dict"]
def pIsinst(ps:List PV)(h:List PO):Res PV:=match ps with
 | [p,.ty c]=>if isTys.contains c=true then match tyName h p with
   | some t=>.ok (.bl (subTy t c)) h
   | none=>.bad
  else .bad
 | _=>.bad
end
end L3
namespace L3
open PySem PySem.Spec PyProof.Rows L2
inductive TyN(K:PySem.W.Frag)(H:Hp):V→String→Prop where
 | non:TyN K H .non "NoneType"
 | bl (x:Bool):TyN K H (.bl x) "bool"
 | int (i:Int):TyN K H (.int i) "int"
 | str (x:Str):TyN K H (.str x) "str"
 | lst {a:Addr} {xs:List V} (e:SqL K H a xs):TyN K H (.ref a) "list"
 | tup {a:Addr} {xs:List V} (e:SqT K H a xs):TyN K H (.ref a) "tuple"
 | dct {a:Addr} {kvs:List (Key×V)} (e:Rd H a (.dK kvs)):TyN K H (.ref a) "dict"
theorem call_isinstN{X:Cx}:CallR X (.builtin "isinstance") (fun xs H Q=>∃ x c t b,xs= [x,.ty c]∧TyN X.K H x t∧PySem.W.kitOne X.K (.type t) (.type c)=some b∧Q (.bl b) H):=by
 intro pins s σ H xs us Q I r h
 obtain ⟨x,c,t,b,rfl,ty,e,q⟩:=h
 obtain ⟨u,w',rfl,ru,rw'⟩:=vals2 r
 cases (show w'=Value.type c from rw')
 have fin:∀ tk,EP X pins σ Q (.bool b) { s with toks:=tk }:=fun tk=>⟨.bl b,H,I.tok tk,rfl,q⟩
 cases ty with
 | non=>cases (show u=Value.none from ru);exact PySem.W.kia_one PySem.W.kitx_none I.kIn True.intro e (fun z=>nomatch z) fin
 | bl y=>cases (show u=Value.bool y from ru);exact PySem.W.kia_one PySem.W.kitx_bool I.kIn True.intro e (fun z=>nomatch z) fin
 | int i=>obtain ⟨t,q⟩:=(show ∃ t,u=Value.int i t from ru);cases q;exact PySem.W.kia_one PySem.W.kitx_int I.kIn True.intro e (fun z=>nomatch z) fin
 | str y=>obtain ⟨t,q⟩:=(show ∃ t,u=Value.str y t from ru);cases q;exact PySem.W.kia_one PySem.W.kitx_str I.kIn True.intro e (fun z=>nomatch z) fin
 | lst ea=>
  cases ru
  obtain ⟨its,_,⟨o,n,h1,h2,_,_⟩,_⟩:=I.list ea
  exact PySem.W.kia_one PySem.W.kitx_list I.kIn ⟨_,h1,h2⟩ e (fun z=>nomatch z) fin
 | tup ea=>
  cases ru
  obtain ⟨its,_,⟨o,h1,h2,_⟩,_⟩:=I.tuple ea
  exact PySem.W.kia_one PySem.W.kitx_tuple I.kIn ⟨o,h1,h2⟩ e (fun z=>nomatch z) fin
 | dct ea=>
  cases ru
  obtain ⟨_,_,vs,_,p⟩:=dk_rd I.hok ea
  obtain ⟨o,es,ep,h1,h2,_⟩:=p
  exact PySem.W.kia_one PySem.W.kitx_dict I.kIn ⟨o,h1,h2.1⟩ e (fun z=>nomatch z) fin
theorem tyName_rep{K:PySem.W.Frag}{T:Tab}{F H:Hp}{m:List Addr}{h:List PO}{p:PV}{x:V}{t:String}(R:RelH K T F m h H)(r:RepV K T F m p x)(e:tyName h p=some t):TyN K H x t:=by
 unfold tyName at e
 split at e
 ·cases e;cases r;exact .non
 ·cases e;cases r;exact .bl _
 ·cases e;cases r;exact .int _
 ·cases e;cases r;exact .str _
 ·cases e
  obtain ⟨a,vs,rfl,ea,_⟩:=tup_rep R r
  exact .tup ea
 ·split at e
  ·rename_i kvs ed
   cases e
   obtain ⟨a,ws,rfl,rd,_⟩:=dcR_rep R r ed
   exact .dct rd
  ·split at e
   ·rename_i xs es
    cases e
    obtain ⟨a,ws,rfl,sq,_⟩:=lsR_rep R r es
    exact .lst sq
   ·cases e
theorem kitOne_of(K:PySem.W.Frag){t c:String}(ht:t∈ ["NoneType","bool","int","str","tuple","dict","list"])(hc:isTys.contains c=true):PySem.W.kitOne K (.type t) (.type c)=some (subTy t c):=by
 have hc':c∈isTys:=by simpa using hc
 simp only [isTys,List.mem_cons,List.not_mem_nil,or_false] at hc' ht
 rcases ht with rfl | rfl | rfl | rfl | rfl | rfl | rfl<;>rcases hc' with rfl | rfl | rfl | rfl | rfl | rfl<;>rfl
theorem tyName_mem{h:List PO}{p:PV}{t:String}(e:tyName h p=some t):t∈ ["NoneType","bool","int","str","tuple","dict","list"]:=by
 unfold tyName at e
 split at e
 ·cases e;simp
 ·cases e;simp
 ·cases e;simp
 ·cases e;simp
 ·cases e;simp
 ·split at e
  ·cases e;simp
  ·split at e
   ·cases e;simp
   ·cases e
section
variable {X:Cx} {T:Tab} {Ew:VK} {a b:Expr} {fa fb:Ex} {pos p0:Pos}
theorem prim_isinst{K:PySem.W.Frag}{T:Tab}:PrimN K T (fun xs H Q=>∃ x c t b,xs= [x,.ty c]∧TyN K H x t∧PySem.W.kitOne K (.type t) (.type c)=some b∧Q (.bl b) H) pIsinst:=by
 intro F m h H xs ps Q Ew R rp w
 unfold pIsinst at w
 split at w
 ·rename_i p c
  obtain ⟨x,y,rfl,rx,ry⟩:=rp.two
  cases ry
  split at w
  ·rename_i hc
   split at w
   ·rename_i t e
    exact ⟨x,c,t,_,rfl,tyName_rep R rx e,kitOne_of K (tyName_mem e) hc,post_ok w R (.bl _)⟩
   ·exact w.elim
  ·exact w.elim
 ·exact w.elim
theorem re_tyN{x:Str}{n:String}{pos:Pos}(hg:Gl X x)(hm:X.mg x=none)(hv:bootBuiltins x=some (.type n))(hn:x≠"__name__":=by decide)(hd:(x==("__debug__":Str))=false:=by decide):RE X T Ew (.Name x pos) (cK (.ty n)):=by with_unfolding_all exact (
 re_const (pe_bltn (v:=.ty n) hg hm hv rfl hn hd) fun _ _=>.ty n)
theorem re_isinst{e:Expr}{es:List Expr}{f:Ax}(hg:Gl X "isinstance")(hm:X.mg "isinstance"=none)(ha:RA X T Ew (e::es) f)
  (he:starEach (e::es) X.env=(false,eval e X.env)::starEach es X.env:=by rfl) (hpl:(backTo pos (starEach es X.env)).any (·.1)=false:=by rfl):
  RE X T Ew (.Call (.Name "isinstance" p0) (e::es) [] pos) (cN pIsinst f):=by with_unfolding_all exact (
  re_callB call_isinstN prim_isinst hg hm (by decide+kernel) ha (by decide) (by decide) he hpl)
theorem re_len{e:Expr}{es:List Expr}{f:Ax}(hg:Gl X "len")(hm:X.mg "len"=none)(ha:RA X T Ew (e::es) f)
  (he:starEach (e::es) X.env=(false,eval e X.env)::starEach es X.env:=by rfl) (hpl:(backTo pos (starEach es X.env)).any (·.1)=false:=by rfl):
  RE X T Ew (.Call (.Name "len" p0) (e::es) [] pos) (cN pLen f):=by with_unfolding_all exact (
  re_callB call_lenA prim_len hg hm (by decide+kernel) ha (by decide) (by decide) he hpl)
def pAbs(ps:List PV)(h:List PO):Res PV:=match ps with
 | [.int i]=>.ok (.int (if i<0 then -i else i)) h
 | _=>.bad
theorem re_abs{e:Expr}{es:List Expr}{f:Ax}(hg:Gl X "abs")(hm:X.mg "abs"=none)(ha:RA X T Ew (e::es) f)
  (he:starEach (e::es) X.env=(false,eval e X.env)::starEach es X.env:=by rfl) (hpl:(backTo pos (starEach es X.env)).any (·.1)=false:=by rfl):
  RE X T Ew (.Call (.Name "abs" p0) (e::es) [] pos) (cN pAbs f):=by with_unfolding_all exact (
  re_callB call_abs (by
 intro F m h H xs ps Q Ew R rp w
 unfold pAbs at w
 split at w
 ·obtain ⟨x,rfl,rx⟩:=rp.one
  cases rx
  exact ⟨_,rfl,post_ok w R (.int _)⟩
 ·exact w.elim) hg hm (by decide+kernel) ha (by decide) (by decide) he hpl)
def strI(i:Int):List Nat:=(Str.ofString (toString i)).cps.toList
def pInt(ps:List PV)(h:List PO):Res PV:=match ps with
 | [.int i]=>.ok (.int i) h
 | [.bl b]=>.ok (.int (if b then 1 else 0)) h
 | _=>.bad
theorem re_intB{e:Expr}{es:List Expr}{f:Ax}(hg:Gl X "int")(hm:X.mg "int"=none)(ha:RA X T Ew (e::es) f)
  (he:starEach (e::es) X.env=(false,eval e X.env)::starEach es X.env:=by rfl) (hpl:(backTo pos (starEach es X.env)).any (·.1)=false:=by rfl):
  RE X T Ew (.Call (.Name "int" p0) (e::es) [] pos) (cN pInt f):=by with_unfolding_all exact (
  re_callTy call_int1 (by
 intro F m h H xs ps Q Ew R rp w
 unfold pInt at w
 split at w
 ·obtain ⟨x,rfl,rx⟩:=rp.one
  cases rx
  exact .inl ⟨_,rfl,post_ok w R (.int _)⟩
 ·obtain ⟨x,rfl,rx⟩:=rp.one
  cases rx
  exact .inr ⟨_,rfl,post_ok w R (.int _)⟩
 ·exact w.elim) hg hm (by decide+kernel) ha (by decide) (by decide) he hpl)
def pTuple(ps:List PV)(h:List PO):Res PV:=match ps with
 | [p]=>match sqR h p with
  | some xs=>.ok (.tup xs) h
  | none=>.bad
 | _=>.bad
theorem re_tuple{e:Expr}{es:List Expr}{f:Ax}(hg:Gl X "tuple")(hm:X.mg "tuple"=none)(ha:RA X T Ew (e::es) f)
  (he:starEach (e::es) X.env=(false,eval e X.env)::starEach es X.env:=by rfl) (hpl:(backTo pos (starEach es X.env)).any (·.1)=false:=by rfl):
  RE X T Ew (.Call (.Name "tuple" p0) (e::es) [] pos) (cN pTuple f):=by with_unfolding_all exact (
  re_callTy call_tuple_of (by
 intro F m h H xs ps Q Ew R rp w
 unfold pTuple at w
 split at w
 ·rename_i p
  obtain ⟨x,rfl,rx⟩:=rp.one
  split at w
  ·rename_i ys es
   by_cases ht:∃ zs,p= .tup zs
   ·obtain ⟨zs,rfl⟩:=ht
    simp only [sqR,Option.some.injEq] at es;subst es
    obtain ⟨a,vs,rfl,ea,ra⟩:=tup_rep R rx
    exact ⟨a,vs,rfl,.inr ⟨ea,post_ok w R rx⟩⟩
   ·have e':lsR h p=some ys:=by
     unfold sqR at es
     split at es
     ·exact absurd ⟨_,rfl⟩ ht
     ·exact es
    obtain ⟨a,vs,rfl,ea,ra⟩:=lsR_rep R rx e'
    exact ⟨a,vs,rfl,.inl ⟨ea,post_tup w R ra⟩⟩
  ·exact w.elim
 ·exact w.elim) hg hm (by decide+kernel) ha (by decide) (by decide) he hpl)
def pList(ps:List PV)(h:List PO):Res PV:=match ps with
 | [p]=>match sqR h p with
  | some xs=>.ok (.lst xs) h
  | none=>.bad
 | _=>.bad
theorem re_list{e:Expr}{es:List Expr}{f:Ax}(hg:Gl X "list")(hm:X.mg "list"=none)(ha:RA X T Ew (e::es) f)
  (he:starEach (e::es) X.env=(false,eval e X.env)::starEach es X.env:=by rfl) (hpl:(backTo pos (starEach es X.env)).any (·.1)=false:=by rfl):
  RE X T Ew (.Call (.Name "list" p0) (e::es) [] pos) (cN pList f):=by with_unfolding_all exact (
  re_callTy call_list_of (by
 intro F m h H xs ps Q Ew R rp w
 unfold pList at w
 split at w
 ·obtain ⟨x,rfl,rx⟩:=rp.one
  split at w
  ·rename_i ys es
   obtain ⟨a,vs,rfl,ea,ra⟩:=sqR_rep R rx es
   exact ⟨a,vs,rfl,ea,post_lst w R ra⟩
  ·exact w.elim
 ·exact w.elim) hg hm (by decide+kernel) ha (by decide) (by decide) he hpl)
def pLst(ps:List PV)(h:List PO):Res PV:=if ps.length≤sizeLine then .ok (.lst ps) h else .bad
def pLstM(ps:List PV)(h:List PO):Res PV:=if ps.length≤sizeLine then .ok (.ref h.length) (h++ [.lst ps]) else .bad
def pTup(ps:List PV)(h:List PO):Res PV:=if ps.length≤sizeLine then .ok (.tup ps) h else .bad
theorem re_lst{es:List Expr}{f:Ax}(ha:RA X T Ew es f):RE X T Ew (.List es pos) (cN pLst f):=by with_unfolding_all
 refine PE.imp (pe_lst ha) fun σ H Q ⟨F,m,ρ,h,R,p⟩=>⟨F,m,ρ,h,R,(Post.bind p).mono fun xs H1 ⟨F1,m1,h1,ps,s1,R1,r1,w1⟩=>?_⟩
 unfold pLst at w1
 split at w1
 ·rename_i hz
  exact ⟨by rw [← r1.length];exact hz,post_lst w1 R1 r1⟩
 ·exact w1.elim
theorem re_lstM{es:List Expr}{f:Ax}(ha:RA X T Ew es f):RE X T Ew (.List es pos) (cN pLstM f):=by with_unfolding_all
 refine PE.imp (pe_lst ha) fun σ H Q ⟨F,m,ρ,h,R,p⟩=>⟨F,m,ρ,h,R,(Post.bind p).mono fun xs H1 ⟨F1,m1,h1,ps,s1,R1,r1,w1⟩=>?_⟩
 unfold pLstM at w1
 split at w1
 ·rename_i hz
  exact ⟨by rw [← r1.length];exact hz,post_new w1 R1 r1⟩
 ·exact w1.elim
theorem re_tup{es:List Expr}{f:Ax}{x1}(ha:RA X T Ew es f):RE X T Ew (.Tuple es x1 pos) (cN pTup f):=by with_unfolding_all
 refine PE.imp (pe_tup ha) fun σ H Q ⟨F,m,ρ,h,R,p⟩=>⟨F,m,ρ,h,R,(Post.bind p).mono fun xs H1 ⟨F1,m1,h1,ps,s1,R1,r1,w1⟩=>?_⟩
 unfold pTup at w1
 split at w1
 ·rename_i hz
  exact ⟨by rw [← r1.length];exact hz,post_tup w1 R1 r1⟩
 ·exact w1.elim
def dcM(h:List PO):PV→Option (List (PK×PV))
 | .ref i=>match h[i]? with
  | some (.dct kvs)=>some kvs
  | _=>none
 | _=>none
theorem dcM_rep{K:PySem.W.Frag}{F H:Hp}{m:List Addr}{h:List PO}{p:PV}{x:V}{kps:List (PK×PV)}(R:RelH K T F m h H)(r:RepV K T F m p x)(e:dcM h p=some kps):∃ a kvs,x= .ref a∧H a=some (.dK kvs)∧kvs.map (·.1)=kps.map (fun p=>tk p.1)∧RepVs K T F m (kps.map (·.2)) (kvs.map (·.2)):=by
 cases r with
 | @ref i a em=>
  have e:(match h[i]? with | some (.dct xs)=>some xs | _=>none)=some kps:=e
  cases q:h[i]? with
  | none=>rw [q] at e;cases e
  | some o=>
   rw [q] at e
   cases o with
   | dct xs=>
    simp only [Option.some.injEq] at e;subst e
    obtain ⟨_,vs,e1,k,rr⟩:=R.obj i _ a q em
    exact ⟨a,vs,rfl,e1,k,rr⟩
   | lst _=>cases e
   | froz _=>cases e
 | _=>simp [dcM] at e
def truP(h:List PO):PV→Option Bool
 | .non=>some false
 | .bl b=>some b
 | .int i=>some (i !=0)
 | .str l=>if l.length≤sizeLine then some (!l.isEmpty) else none
 | p=>match sqR h p with
  | some xs=>some (!xs.isEmpty)
  | none=>match dcM h p with
   | some kvs=>some (!kvs.isEmpty)
   | none=>none
def tTruE(f:Ex):Tx:=fun ρ h=>(f ρ h).bind fun p h1=>match truP h1 p with
 | some b=>.ok b h1
 | none=>.bad
theorem isEmpty_len{α β:Type}{xs:List α}{ys:List β}(h:xs.length=ys.length):xs.isEmpty=ys.isEmpty:=by
 cases xs<;>cases ys<;>simp at h ⊢
theorem truP_rep{K:PySem.W.Frag}{F H:Hp}{m:List Addr}{h:List PO}{p:PV}{x:V}{k:Bool}(R:RelH K T F m h H)(r:RepV K T F m p x)(e:truP h p=some k):TruV K x H k:=by
 unfold truP at e
 split at e
 ·cases e;cases r;exact rfl
 ·cases e;cases r;exact rfl
 ·cases e;cases r;exact rfl
 ·rename_i l
  cases r
  split at e
  ·rename_i hz
   cases e
   refine ⟨by rw [S_len];exact hz,?_⟩
   rw [S_len]
   cases l<;>simp
   omega
  ·cases e
 ·split at e
  ·rename_i xs es
   cases e
   obtain ⟨a,vs,rfl,ea,ra⟩:=sqR_rep R r es
   rcases ea with ea | ea
   ·exact .inl ⟨vs,ea,by rw [isEmpty_len ra.length]⟩
   ·exact .inr (.inl ⟨vs,ea,by rw [isEmpty_len ra.length]⟩)
  ·split at e
   ·rename_i kvs ed
    cases e
    obtain ⟨a,ws,rfl,e1,kq,_⟩:=dcM_rep R r ed
    have hl:ws.length=kvs.length:=by have:=congrArg List.length kq;simpa using this
    exact .inr (.inr ⟨ws,e1,by rw [isEmpty_len hl]⟩)
   ·cases e
theorem rt_tru(ha:RE X T Ew a fa)(he:∀ whole,isTrue a X.env whole=(do let v ← whole;standAt a.pos;holding [v] (truthy v)):=by intro _;rfl):RT X T Ew a (tTruE fa):=by with_unfolding_all
 refine PT.imp (pt_truth ha he) fun σ H Q ⟨F,m,ρ,h,R,p⟩=>⟨F,m,ρ,h,R,(Post.bind p).mono fun x H1 ⟨F1,m1,h1,p1,s1,R1,r1,w1⟩=>?_⟩
 cases e:truP h1 p1 with
 | none=>rw [e] at w1;exact w1.elim
 | some k=>rw [e] at w1;exact ⟨k,truP_rep R1 r1 e,Post.here w1 R1 rfl⟩
def tCmpE(f:Ex):Tx:=fun ρ h=>(f ρ h).bind fun p h1=>match p with
 | .bl b=>.ok b h1
 | _=>.bad
theorem rt_cmp{op:CmpOp}{r:R2}{g:PV→PV→List PO→Res PV}(ho:OpR X (compareOp op) r)(P:Prim2 X.K T r g)(ha:RE X T Ew a fa)(hb:RE X T Ew b fb)(hm:behindInMarks op b=false):RT X T Ew (.Compare a [op] [b] pos) (tCmpE (c2 g fa fb)):=by with_unfolding_all
 refine PT.imp (pt_cmpR ho ha hb hm) fun σ H Q ⟨F,m,ρ,h,R,p⟩=>?_
 have p':=(Post.bind (R:=RepV X.K T) p).mono (Q':=fun x H1=>∃ k,x= .bl k∧Q k H1) fun x H1 ⟨F1,m1,h1,p1,s1,R1,r1,w1⟩=>by
  cases r1 with
  | bl k=>exact ⟨k,rfl,Post.here w1 R1 rfl⟩
  | _=>exact w1.elim
 exact w2 P ⟨F,m,ρ,h,R,p'⟩
def tNotE(f:Tx):Tx:=fun ρ h=>(f ρ h).bind fun b h1=>.ok (!b) h1
def tAndE(f g:Tx):Tx:=fun ρ h=>(f ρ h).bind fun b h1=>if b=true then g ρ h1 else .ok false h1
def tOrE(f g:Tx):Tx:=fun ρ h=>(f ρ h).bind fun b h1=>if b=true then .ok true h1 else g ρ h1
theorem rt_not{f:Tx}(ha:RT X T Ew a f):RT X T Ew (.UnaryOp .Not a pos) (tNotE f):=by with_unfolding_all exact (
 PT.imp (pt_not ha) fun σ H Q ⟨F,m,ρ,h,R,p⟩=>⟨F,m,ρ,h,R,(Post.bind p).mono fun x H1 ⟨F1,m1,h1,p1,s1,R1,r1,w1⟩=>by cases r1;exact Post.here w1 R1 rfl⟩)
@[irreducible] def RW(X:Cx)(T:Tab)(Ew:VK)(e:Expr)(f:Tx):Prop:=PW X e (wT X T Ew f)
theorem RW.rt{e:Expr}{f:Tx}(h:RW X T Ew e f):RT X T Ew e f:=by with_unfolding_all exact (
  PW.pt h)
theorem rw_and1{f:Tx}(ha:RT X T Ew a f):RW X T Ew (.BoolOp .And [a] pos) f:=by with_unfolding_all exact (
  pw_and1 ha)
theorem rw_or1{f:Tx}(ha:RT X T Ew a f):RW X T Ew (.BoolOp .Or [a] pos) f:=by with_unfolding_all exact (
  pw_or1 ha)
theorem rw_and{f g:Tx}{rest:List Expr}(ha:RT X T Ew a f)(hb:RW X T Ew (.BoolOp .And (b::rest) pos) g):RW X T Ew (.BoolOp .And (a::b::rest) pos) (tAndE f g):=by with_unfolding_all
 refine PW.imp (pw_and ha hb) fun σ H Q ⟨F,m,ρ,h,R,p⟩=>⟨F,m,ρ,h,R,(Post.bind p).mono fun x H1 ⟨F1,m1,h1,p1,s1,R1,r1,w1⟩=>?_⟩
 cases r1
 cases x with
 | true=>exact iteT ⟨F1,m1,ρ,h1,R.of s1 R1,w1⟩
 | false=>exact iteF (Post.here w1 R1 rfl)
theorem rw_or{f g:Tx}{rest:List Expr}(ha:RT X T Ew a f)(hb:RW X T Ew (.BoolOp .Or (b::rest) pos) g):RW X T Ew (.BoolOp .Or (a::b::rest) pos) (tOrE f g):=by with_unfolding_all
 refine PW.imp (pw_or ha hb) fun σ H Q ⟨F,m,ρ,h,R,p⟩=>⟨F,m,ρ,h,R,(Post.bind p).mono fun x H1 ⟨F1,m1,h1,p1,s1,R1,r1,w1⟩=>?_⟩
 cases r1
 cases x with
 | true=>exact iteT (Post.here w1 R1 rfl)
 | false=>exact iteF ⟨F1,m1,ρ,h1,R.of s1 R1,w1⟩
def cAnd(f g:Ex):Ex:=fun ρ h=>(f ρ h).bind fun p h1=>match p with
 | .bl b=>if b=true then g ρ h1 else .ok (.bl false) h1
 | _=>.bad
def cOr(f g:Ex):Ex:=fun ρ h=>(f ρ h).bind fun p h1=>match p with
 | .bl b=>if b=true then .ok (.bl true) h1 else g ρ h1
 | _=>.bad
theorem re_one{op}(ha:RE X T Ew a fa):RE X T Ew (.BoolOp op [a] pos) fa:=by with_unfolding_all exact (
  pe_one ha)
theorem re_and{rest:List Expr}(ha:RE X T Ew a fa)(hb:RE X T Ew (.BoolOp .And (b::rest) pos) fb):RE X T Ew (.BoolOp .And (a::b::rest) pos) (cAnd fa fb):=by with_unfolding_all
 refine PE.imp (pe_and ha hb) fun σ H Q ⟨F,m,ρ,h,R,p⟩=>⟨F,m,ρ,h,R,(Post.bind p).mono fun x H1 ⟨F1,m1,h1,p1,s1,R1,r1,w1⟩=>?_⟩
 cases r1 with
 | bl k=>
  refine ⟨k,rfl,?_⟩
  cases k with
  | true=>exact iteT ⟨F1,m1,ρ,h1,R.of s1 R1,w1⟩
  | false=>exact iteF (Post.here w1 R1 (.bl _))
 | _=>exact w1.elim
theorem re_or{rest:List Expr}(ha:RE X T Ew a fa)(hb:RE X T Ew (.BoolOp .Or (b::rest) pos) fb):RE X T Ew (.BoolOp .Or (a::b::rest) pos) (cOr fa fb):=by with_unfolding_all
 refine PE.imp (pe_or ha hb) fun σ H Q ⟨F,m,ρ,h,R,p⟩=>⟨F,m,ρ,h,R,(Post.bind p).mono fun x H1 ⟨F1,m1,h1,p1,s1,R1,r1,w1⟩=>?_⟩
 cases r1 with
 | bl k=>
  refine ⟨k,rfl,?_⟩
  cases k with
  | true=>exact iteT (Post.here w1 R1 (.bl _))
  | false=>exact iteF ⟨F1,m1,ρ,h1,R.of s1 R1,w1⟩
 | _=>exact w1.elim
end
end L3
namespace L3
open PySem PySem.Spec PyProof.Rows L2
section
variable {K:PySem.W.Frag} {T:Tab} {F H:Hp} {m:List Addr} {h:List PO}
theorem RelH.upd{i:Nat}{a:Addr}{o':PO}{ho:HO}(R:RelH K T F m h H)(em:m[i]? =some a)(hF:F a=none)(hH:∃ u,H a=some u)(new:ObjR K T F m (upd H a ho) a o'):
  Step F m H F m (upd H a ho)∧RelH K T F m (h.set i o') (upd H a ho):=by
 have hi:i<h.length:=by
  rw [R.len]
  rcases Nat.lt_or_ge i m.length with q | q
  ·exact q
  ·rw [List.getElem?_eq_none q] at em;cases em
 have am:a∈m:=List.mem_of_getElem? em
 refine ⟨⟨Same.refl _,⟨[],by simp⟩,fun b u e n=>(upd_ne (fun z=>n (by rw [z];exact am))).trans e,fun b u e=>?_,fun j c hj e=>(by rw [List.getElem?_eq_none hj] at e;cases e),fun c u e=>.inl e⟩,?_⟩
 ·by_cases hb:b=a
  ·subst hb;exact ⟨_,upd_same⟩
  ·exact ⟨u,by rw [upd_ne hb];exact e⟩
 ·refine ⟨fun b u e=>?_,by rw [List.length_set];exact R.len,fun j ob c e1 e2=>?_,R.nd⟩
  ·have hb:b≠a:=fun z=>by rw [z,hF] at e;cases e
   rw [upd_ne hb];exact R.same b u e
  ·by_cases hj:i=j
   ·subst hj
    rw [List.getElem?_set_self hi] at e1
    cases e1
    rw [em] at e2;cases e2
    exact new
   ·rw [List.getElem?_set_ne hj] at e1
    have hc:c≠a:=fun z=>by
     subst z
     exact hj (by
      have hi':i<m.length:=by rw [← R.len];exact hi
      have hj':j<m.length:=by
       rcases Nat.lt_or_ge j m.length with q | q
       ·exact q
       ·rw [List.getElem?_eq_none q] at e2;cases e2
      rw [List.getElem?_eq_getElem hi',Option.some.injEq] at em
      rw [List.getElem?_eq_getElem hj',Option.some.injEq] at e2
      exact (List.getElem_inj R.nd).mp (em.trans e2.symm))
    have q:=R.obj j ob c e1 e2
    cases ob with
    | lst xs=>obtain ⟨f,vs,z,rr⟩:=q;exact ⟨f,vs,by rw [upd_ne hc];exact z,rr⟩
    | dct xs=>obtain ⟨f,vs,z,k,rr⟩:=q;exact ⟨f,vs,by rw [upd_ne hc];exact z,k,rr⟩
    | froz q'=>exact q
def liveL(h:List PO):PV→Option (Nat×List PV)
 | .ref i=>match h[i]? with
  | some (.lst xs)=>some (i,xs)
  | _=>none
 | _=>none
theorem liveL_rep{p:PV}{x:V}{i:Nat}{ps:List PV}(R:RelH K T F m h H)(r:RepV K T F m p x)(e:liveL h p=some (i,ps)):∃ a vs,x= .ref a∧m[i]? =some a∧F a=none∧H a=some (.lst vs)∧RepVs K T F m ps vs:=by
 cases r with
 | @ref j a em=>
  have e:(match h[j]? with | some (.lst xs)=>some (j,xs) | _=>none)=some (i,ps):=e
  cases q:h[j]? with
  | none=>rw [q] at e;cases e
  | some o=>
   rw [q] at e
   cases o with
   | lst xs=>
    simp only [Option.some.injEq,Prod.mk.injEq] at e
    obtain ⟨rfl,rfl⟩:=e
    obtain ⟨f,vs,e1,rr⟩:=R.obj j _ a q em
    exact ⟨a,vs,rfl,em,f,e1,rr⟩
   | dct _=>cases e
   | froz _=>cases e
 | _=>simp [liveL] at e
theorem post_set{Q:VK}{Ew:VK}{i:Nat}{a:Addr}{ps:List PV}{vs vs0:List V}{p:PV}{x:V}(w:Post K T (RepV K T) F m H Q Ew (.ok p (h.set i (.lst ps))))(R:RelH K T F m h H)(em:m[i]? =some a)(hF:F a=none)(hH:H a=some (.lst vs0))(r:RepVs K T F m ps vs)
  (rp:RepV K T F m p x):Q x (upd H a (.lst vs)):=by
 obtain ⟨s,R'⟩:=R.upd (o':=.lst ps) (ho:=.lst vs) em hF ⟨_,hH⟩ ⟨hF,vs,upd_same,r⟩
 exact w F m _ _ s R' rp
def frzV(h:List PO):PV→Option (PV×List PO)
 | .ref i=>match h[i]? with
  | some (.lst xs)=>if pures xs=true then some (.lst xs,h.set i (.froz (.lst xs))) else none
  | some (.dct _)=>none
  | some (.froz p)=>some (p,h)
  | none=>none
 | p=>if p.pure=true then some (p,h) else none
theorem frz_obj{i:Nat}{a:Addr}{u:HO}{p:PV}(R:RelH K T F m h H)(em:m[i]? =some a)(hF:F a=none)(hH:H a=some u)(hp:p.pure=true)(r:RepV K T (upd F a u) m p (.ref a)):
  Step F m H (upd F a u) m H∧RelH K T (upd F a u) m (h.set i (.froz p)) H:=by
 have hi:i<h.length:=by
  rw [R.len]
  rcases Nat.lt_or_ge i m.length with q | q
  ·exact q
  ·rw [List.getElem?_eq_none q] at em;cases em
 have am:a∈m:=List.mem_of_getElem? em
 have sF:Same F (upd F a u):=same_new hF u
 refine ⟨⟨sF,⟨[],by simp⟩,fun b o e _=>e,fun b o e=>⟨o,e⟩,fun j c hj e=>(by rw [List.getElem?_eq_none hj] at e;cases e),fun c o e=>?_⟩,?_⟩
 ·by_cases hc:c=a
  ·subst hc;exact .inr (.inr am)
  ·rw [upd_ne hc] at e;exact .inl e
 ·refine ⟨fun b o e=>?_,by rw [List.length_set];exact R.len,fun j ob c e1 e2=>?_,R.nd⟩
  ·by_cases hb:b=a
   ·subst hb;rw [upd_same] at e;cases e;exact hH
   ·rw [upd_ne hb] at e;exact R.same b o e
  ·by_cases hj:i=j
   ·subst hj
    rw [List.getElem?_set_self hi] at e1
    cases e1
    rw [em] at e2;cases e2
    exact ⟨r,hp,u,upd_same⟩
   ·rw [List.getElem?_set_ne hj] at e1
    have hc:c≠a:=fun z=>by
     subst z
     exact hj (by
      have hi':i<m.length:=by rw [← R.len];exact hi
      have hj':j<m.length:=by
       rcases Nat.lt_or_ge j m.length with q | q
       ·exact q
       ·rw [List.getElem?_eq_none q] at e2;cases e2
      rw [List.getElem?_eq_getElem hi',Option.some.injEq] at em
      rw [List.getElem?_eq_getElem hj',Option.some.injEq] at e2
      exact (List.getElem_inj R.nd).mp (em.trans e2.symm))
    have q:=R.obj j ob c e1 e2
    cases ob with
    | lst xs=>obtain ⟨f,vs,z,rr⟩:=q;exact ⟨by rw [upd_ne hc];exact f,vs,z,rr.mono sF fun _ _ h=>h⟩
    | dct xs=>obtain ⟨f,vs,z,k,rr⟩:=q;exact ⟨by rw [upd_ne hc];exact f,vs,z,k,rr.mono sF fun _ _ h=>h⟩
    | froz q'=>obtain ⟨r1,r2,o,r3⟩:=q;exact ⟨r1.mono sF fun _ _ h=>h,r2,o,sF _ _ r3⟩
theorem frzV_rep{p q:PV}{x:V}{h':List PO}(R:RelH K T F m h H)(r:RepV K T F m p x)(e:frzV h p=some (q,h')):∃ F',Step F m H F' m H∧RelH K T F' m h' H∧RepV K T F' m q x∧q.pure=true:=by
 by_cases hr:∃ i,p= .ref i
 ·obtain ⟨i,rfl⟩:=hr
  have e:(match h[i]? with
   | some (.lst xs)=>if pures xs=true then some (PV.lst xs,h.set i (.froz (.lst xs))) else none
   | some (.dct _)=>none
   | some (.froz p)=>some (p,h)
   | none=>none)=some (q,h'):=e
  cases r with
  | @ref _ a em=>
   cases z:h[i]? with
   | none=>rw [z] at e;cases e
   | some o=>
    rw [z] at e
    have ob:=R.obj i o a z em
    cases o with
    | lst xs=>
     by_cases hp:pures xs=true
     ·simp only [hp,if_true,Option.some.injEq,Prod.mk.injEq] at e
      obtain ⟨rfl,rfl⟩:=e
      obtain ⟨f,vs,e1,rr⟩:=ob
      have rl:RepV K T (L2.upd F a (.lst vs)) m (.lst xs) (.ref a):=.lst upd_same (rr.mono (same_new f _) fun _ _ h=>h)
      have pp:(PV.lst xs).pure=true:=by simpa [PV.pure] using hp
      obtain ⟨s,R'⟩:=frz_obj R em f e1 pp rl
      exact ⟨_,s,R',rl,pp⟩
     ·simp [hp] at e
    | dct kvs=>cases e
    | froz p=>
     simp only [Option.some.injEq,Prod.mk.injEq] at e
     obtain ⟨rfl,rfl⟩:=e
     exact ⟨F,.refl,R,ob.1,ob.2.1⟩
 ·have e':(if p.pure=true then some (p,h) else none)=some (q,h'):=by
   unfold frzV at e
   split at e
   ·exact absurd ⟨_,rfl⟩ hr
   ·exact e
  by_cases hp:p.pure=true
  ·simp only [hp,if_true,Option.some.injEq,Prod.mk.injEq] at e'
   obtain ⟨rfl,rfl⟩:=e'
   exact ⟨F,.refl,R,r,hp⟩
  ·simp [hp] at e'
def frzs:List PV→List PO→Option (List PV×List PO)
 | [],h=>some ([],h)
 | p::r,h=>match frzV h p with
  | some (q,h1)=>match frzs r h1 with
   | some (qs,h2)=>some (q::qs,h2)
   | none=>none
  | none=>none
end
theorem frzs_rep{K:PySem.W.Frag}{T:Tab}{m:List Addr}{H:Hp}:∀ {ps qs:List PV} {xs:List V} {h h':List PO} {F:Hp},RelH K T F m h H→RepVs K T F m ps xs→frzs ps h=some (qs,h')→
  ∃ F',Step F m H F' m H∧RelH K T F' m h' H∧RepVs K T F' m qs xs∧pures qs=true
 | [],qs,xs,h,h',F,R,r,e=>by
  simp only [frzs,Option.some.injEq,Prod.mk.injEq] at e
  obtain ⟨rfl,rfl⟩:=e
  exact ⟨F,.refl,R,r,by simp [pures]⟩
 | p::ps,qs,xs,h,h',F,R,r,e=>by
  cases r with
  | cons r1 r2=>
   unfold frzs at e
   cases z:frzV h p with
   | none=>rw [z] at e;cases e
   | some a=>
    obtain ⟨q,h1⟩:=a
    rw [z] at e
    dsimp only at e
    cases z2:frzs ps h1 with
    | none=>rw [z2] at e;cases e
    | some b=>
     obtain ⟨qs2,h2⟩:=b
     rw [z2] at e
     simp only [Option.some.injEq,Prod.mk.injEq] at e
     obtain ⟨rfl,rfl⟩:=e
     obtain ⟨F1,s1,R1,ra,p1⟩:=frzV_rep R r1 z
     obtain ⟨F2,s2,R2,rb,p2⟩:=frzs_rep R1 (s1.reps r2) z2
     exact ⟨F2,s1.trans s2,R2,.cons (s2.rep ra) rb,by simp [pures,p1,p2]⟩
def PrimM(K:PySem.W.Frag)(T:Tab)(r:V→List V→Hp→VK→Prop)(g:PV→List PV→List PO→Res PV):Prop:=
 ∀ F m h H x xs p ps Q Ew,RelH K T F m h H→RepV K T F m p x→RepVs K T F m ps xs→Post K T (RepV K T) F m H Q Ew (g p ps h)→r x xs H Q
def cM(recv:List PO→PV→Bool)(g:PV→List PV→List PO→Res PV)(o:Ex)(as:Ax):Ex:=fun ρ h=>(o ρ h).bind fun p h1=>if recv h1 p=true then (as ρ h1).bind fun ps h2=>g p ps h2 else .bad
def isStr(_:List PO):PV→Bool
 | .str _=>true
 | _=>false
def isLst(h:List PO)(p:PV):Bool:=(lsR h p).isSome
section
variable {X:Cx} {T:Tab} {Ew:VK} {o e:Expr} {es:List Expr} {fo:Ex} {fs:Ax} {name:Str} {apos cpos:Pos} {id:String} {r:V→List V→Hp→VK→Prop} {g:PV→List PV→List PO→Res PV}
theorem re_bm{Ty:String}{recv:List PO→PV→Bool}(ty:∀ F m h H p x,RelH X.K T F m h H→RepV X.K T F m p x→recv h p=true→tyV X.K Ty x H)(pa:PlainAttrs Ty)(slot:Slot Ty name id)(hty:typeOf (.builtin id)=pure (.type "method_descriptor"))(hm:MtR X id r)(P:PrimM X.K T r g)
  (ho:RE X T Ew o fo) (ha:RA X T Ew (e::es) fs)
  (hbase:attributeBase o name X.env (eval o X.env)=eval o X.env:=by rfl)
  (hfew:((backTo cpos (starEach (e::es) X.env)).all (fun x=>!x.1)&&(backToKw cpos (keywordEach [] X.env)).all (fun x=>x.1.isSome)
   &&decide ((e::es).length+([]:List Keyword).length+(if ([]:List Keyword).isEmpty then 0 else 1)<30))=true:=by rfl)
  (hline:(apos.endLine==cpos.line)=true:=by rfl) (hs:starEach (e::es) X.env=(false,eval e X.env)::starEach es X.env:=by rfl) (hplain:(backTo cpos (starEach es X.env)).any (·.1)=false:=by rfl):
  RE X T Ew (.Call (.Attribute o name apos) (e::es) [] cpos) (cM recv g fo fs):=by with_unfolding_all
 refine PE.imp (pe_bm pa slot hty hm ho ha hbase hfew hline hs hplain) fun σ H Q ⟨F,m,ρ,h,R,p⟩=>⟨F,m,ρ,h,R,(Post.bind p).mono fun x H1 ⟨F1,m1,h1,p1,s1,R1,r1,w1⟩=>?_⟩
 by_cases hr:recv h1 p1=true
 ·simp only [hr,if_true] at w1
  refine ⟨ty _ _ _ _ _ _ R1 r1 hr,F1,m1,ρ,h1,R.of s1 R1,(Post.bind w1).mono fun xs H2 ⟨F2,m2,h2,p2,s2,R2,r2,w2⟩=>?_⟩
  exact P F2 m2 h2 H2 x xs p1 p2 Q Ew R2 (s2.rep r1) r2 w2
 ·simp only [hr,if_false] at w1
  exact w1.elim
theorem ty_str(F:Hp)(m:List Addr)(h:List PO)(H:Hp)(p:PV)(x:V)(R:RelH X.K T F m h H)(r:RepV X.K T F m p x)(e:isStr h p=true):tyV X.K "str" x H:=by
 cases r with
 | str y=>rfl
 | _=>simp [isStr] at e
theorem ty_lst(F:Hp)(m:List Addr)(h:List PO)(H:Hp)(p:PV)(x:V)(R:RelH X.K T F m h H)(r:RepV X.K T F m p x)(e:isLst h p=true):tyV X.K "list" x H:=by
 unfold isLst at e
 obtain ⟨xs,ex⟩:=Option.isSome_iff_exists.mp e
 obtain ⟨a,vs,rfl,sq,_⟩:=lsR_rep R r ex
 exact .inl ⟨rfl,vs,sq⟩
def joinL(sep:List Nat):List (List Nat)→List Nat
 | []=> []
 | [x]=>x
 | x::rest=>x++sep++joinL sep rest
theorem S_join(sep:List Nat):∀ xs:List (List Nat),Txt.join (S sep) (xs.map S)=S (joinL sep xs):=by
 have go:∀ xs:List (List Nat),Str.join (S sep) (xs.map S)=S (joinL sep xs):=by
  intro xs
  induction xs with
  | nil=>rfl
  | cons x r ih=>
   cases r with
   | nil=>rfl
   | cons y r=>
    have e:joinL sep (x::y::r)=x++sep++joinL sep (y::r):=rfl
    rw [e,← S_append,← S_append,← ih]
    rfl
 intro xs
 show Builtin.Str.glued _ _=_
 rw [StrLaws.glued_eq_join]
 exact go xs
def strsOf:List PV→Option (List (List Nat))
 | []=>some []
 | .str l::r=>(strsOf r).map (l:: ·)
 | _::_=>none
theorem strsOf_map:∀ {ps:List PV} {ls:List (List Nat)},strsOf ps=some ls→ps=ls.map PV.str
 | [],ls,e=>by simp [strsOf] at e;subst e;rfl
 | p::r,ls,e=>by
  cases p with
  | str l=>
   simp only [strsOf,Option.map_eq_some_iff] at e
   obtain ⟨ls',e1,rfl⟩:=e
   rw [strsOf_map e1];rfl
  | _=>simp [strsOf] at e
theorem strsOf_of(ls:List (List Nat)):strsOf (ls.map PV.str)=some ls:=by
 induction ls with
 | nil=>rfl
 | cons l r ih=>simp [strsOf,ih]
theorem reps_strs{K:PySem.W.Frag}{F:Hp}{m:List Addr}:∀ {ls:List (List Nat)} {vs:List V},RepVs K T F m (ls.map PV.str) vs→vs=(ls.map S).map V.str
 | [],_,.nil=>rfl
 | l::r,_,.cons h t=>by cases h;rw [reps_strs t];rfl
def pJoin(p:PV)(ps:List PV)(h:List PO):Res PV:=match p,ps with
 | .str sep,[q]=>match lsR h q with
  | some xs=>match strsOf xs with
   | some ls=>if (ls.map (·.length)).sum+ls.length * sep.length≤16777216 then .ok (.str (joinL sep ls)) h else .bad
   | none=>.bad
  | none=>.bad
 | _,_=>.bad
theorem prim_join{K:PySem.W.Frag}:PrimM K T (rJoin K) pJoin:=by
 intro F m h H x xs p ps Q Ew R rp rs w
 unfold pJoin at w
 split at w
 ·rename_i sep q
  cases rp
  obtain ⟨y,rfl,ry⟩:=rs.one
  split at w
  ·rename_i zs ez
   split at w
   ·rename_i ls el
    split at w
    ·rename_i hz
     obtain ⟨a,vs,rfl,sq,rr⟩:=lsR_rep R ry ez
     have e1:=strsOf_map el
     subst e1
     rw [reps_strs rr] at sq
     refine ⟨_,a,ls.map S,rfl,rfl,sq,?_,by rw [S_join];exact post_ok w R (.str _)⟩
     have e2:(ls.map S).map (·.length)=ls.map (·.length):=by
      rw [List.map_map];apply List.map_congr_left;intro l _;exact S_len l
     rw [e2,List.length_map,S_len];exact hz
    ·exact w.elim
   ·exact w.elim
  ·exact w.elim
 ·exact w.elim
def pAppend(p:PV)(ps:List PV)(h:List PO):Res PV:=match ps with
 | [q]=>match liveL h p with
  | some (i,xs)=>if xs.length<sizeLine then .ok .non (h.set i (.lst (xs++ [q]))) else .bad
  | none=>.bad
 | _=>.bad
theorem prim_append{K:PySem.W.Frag}:PrimM K T rAppend pAppend:=by
 intro F m h H x xs p ps Q Ew R rp rs w
 unfold pAppend at w
 split at w
 ·obtain ⟨y,rfl,ry⟩:=rs.one
  split at w
  ·rename_i i zs el
   split at w
   ·rename_i hz
    obtain ⟨a,vs,rfl,em,hF,hH,rr⟩:=liveL_rep R rp el
    exact ⟨a,vs,y,rfl,rfl,hH,by rw [← rr.length];exact hz,post_set w R em hF hH (rr.append (.cons ry .nil)) .non⟩
   ·exact w.elim
  ·exact w.elim
 ·exact w.elim
end
end L3
namespace L3
open PySem PySem.Spec PyProof.Rows L2
structure GivP(K:PySem.W.Frag)(T:Tab)(J:It)(xs:List PV)(F:Hp)(m:List Addr)(H:Hp):Prop where
 go:∀ (i:Nat) F1 m1 h1 H1,Step F m H F1 m1 H1→RelH K T F1 m1 h1 H1→i<xs.length→J.go i H1
 yld:∀ (i:Nat) F1 m1 h1 H1 v H2,Step F m H F1 m1 H1→RelH K T F1 m1 h1 H1→i<xs.length→J.yld i H1 v H2→∃ F2 m2 p,Step F1 m1 H1 F2 m2 H2∧RelH K T F2 m2 h1 H2∧xs[i]? =some p∧RepV K T F2 m2 p v
 stop:∀ F1 m1 h1 H1,Step F m H F1 m1 H1→RelH K T F1 m1 h1 H1→J.stop xs.length H1
theorem GivP.step{K:PySem.W.Frag}{T:Tab}{J:It}{xs:List PV}{F F1 H H1:Hp}{m m1:List Addr}(G:GivP K T J xs F m H)(s:Step F m H F1 m1 H1):GivP K T J xs F1 m1 H1:=
 ⟨fun i F2 m2 h2 H2 t=>G.go i F2 m2 h2 H2 (s.trans t),fun i F2 m2 h2 H2 v H3 t=>G.yld i F2 m2 h2 H2 v H3 (s.trans t),fun F2 m2 h2 H2 t=>G.stop F2 m2 h2 H2 (s.trans t)⟩
@[irreducible] def RI(X:Cx)(T:Tab)(Ew:VK)(tg e:Expr)(f:Ax):Prop:=PI X tg e (fun σ H R=>∃ F m ρ h,RelS X.K T F m ρ h σ H∧Post X.K T (fun F m xs J=>∀ H,GivP X.K T J xs F m H) F m H R Ew (f ρ h))
section
variable {K:PySem.W.Frag} {T:Tab} {F H:Hp} {m:List Addr}
theorem giv_rng(lo:Int)(n:Nat):GivP K T (Itr lo n) ((List.range n).map fun i=>PV.int (lo+(i:Nat))) F m H:=by
 refine ⟨fun i F1 m1 h1 H1 s R hi=>by show i<n;simpa using hi,fun i F1 m1 h1 H1 v H2 s R hi y=>?_,fun F1 m1 h1 H1 s R=>by show n≤_;simp⟩
 obtain ⟨rfl,rfl⟩:=y
 have hi':i<n:=by simpa using hi
 exact ⟨F1,m1,_,.refl,R,by simp [hi'],.int _⟩
theorem giv_str(l:List Nat):GivP K T (Its (S l)) (l.map fun c=>PV.str [c]) F m H:=by
 refine ⟨fun i F1 m1 h1 H1 s R hi=>by show i<(S l).cps.size;simpa [S] using hi,fun i F1 m1 h1 H1 v H2 s R hi y=>?_,fun F1 m1 h1 H1 s R=>by show _=(S l).cps.size;simp [S]⟩
 obtain ⟨rfl,c,hc,rfl⟩:=y
 have hc':l[i]? =some c:=by simpa [S] using hc
 exact ⟨F1,m1,_,.refl,R,by simp [hc'],.str [c]⟩
theorem giv_lst{a:Addr}{xs:List PV}{vs:List V}(e:SqL K F a vs)(r:RepVs K T F m xs vs):GivP K T (Itl K a) xs F m H:=by
 have at':∀ {F1:Hp} {m1:List Addr} {h1:List PO} {H1:Hp},Step F m H F1 m1 H1→RelH K T F1 m1 h1 H1→SqL K H1 a vs:=fun s R=>R.same.seq (s.fz.seq e)
 refine ⟨fun i F1 m1 h1 H1 s R hi=>?_,fun i F1 m1 h1 H1 v H2 s R hi y=>?_,fun F1 m1 h1 H1 s R=>⟨vs,at' s R,by rw [r.length];exact Nat.le_refl _⟩⟩
 ·rw [r.length] at hi
  exact ⟨vs,vs[i],at' s R,List.getElem?_eq_getElem hi⟩
 ·obtain ⟨rfl,y⟩:=y
  obtain ⟨v',h1,h2⟩:=r.get (List.getElem?_eq_getElem hi)
  have:=y vs (at' s R)
  rw [h1] at this;cases this
  exact ⟨F1,m1,_,.refl,R,List.getElem?_eq_getElem hi,s.rep h2⟩
theorem giv_tup{a:Addr}{xs:List PV}{vs:List V}(e:SqT K F a vs)(r:RepVs K T F m xs vs):GivP K T (Itt K a) xs F m H:=by
 have at':∀ {F1:Hp} {m1:List Addr} {h1:List PO} {H1:Hp},Step F m H F1 m1 H1→RelH K T F1 m1 h1 H1→SqT K H1 a vs:=fun s R=>R.same.seqT (s.fz.seqT e)
 refine ⟨fun i F1 m1 h1 H1 s R hi=>?_,fun i F1 m1 h1 H1 v H2 s R hi y=>?_,fun F1 m1 h1 H1 s R=>⟨vs,at' s R,by rw [r.length];exact Nat.le_refl _⟩⟩
 ·rw [r.length] at hi
  exact ⟨vs,vs[i],at' s R,List.getElem?_eq_getElem hi⟩
 ·obtain ⟨rfl,y⟩:=y
  obtain ⟨v',h1,h2⟩:=r.get (List.getElem?_eq_getElem hi)
  have:=y vs (at' s R)
  rw [h1] at this;cases this
  exact ⟨F1,m1,_,.refl,R,List.getElem?_eq_getElem hi,s.rep h2⟩
end
section
variable {X:Cx} {T:Tab} {Ew:VK} {tg a b:Expr} {fa fb:Ex} {pos p0:Pos}
theorem PI.or{X:Cx}{tg e:Expr}{w1 w2:TI}(h1:PI X tg e w1)(h2:PI X tg e w2):PI X tg e (fun σ H R=>w1 σ H R∨w2 σ H R):=fun pins s σ H R I h=>h.elim (h1 pins s σ H R I) (h2 pins s σ H R I)
def aRange1(f:Ax):Ax:=fun ρ h=>(f ρ h).bind fun ps h1=>match ps with
 | [.int j]=>if bel 4611686018427387904 j=true then .ok ((List.range j.toNat).map fun i=>PV.int (0+(i:Nat))) h1 else .bad
 | _=>.bad
theorem ri_range1{f:Ax}(hg:Gl X "range")(hm:X.mg "range"=none)(ha:RA X T Ew [a] f)(hs:starEach [a] X.env= [(false,eval a X.env)]:=by rfl):RI X T Ew tg (.Call (.Name "range" p0) [a] [] pos) (aRange1 f):=by with_unfolding_all
 intro pins s σ H R I ⟨F,m,ρ,h,RR,p⟩
 refine pi_range1 hg hm ha hs pins s σ H R I ⟨F,m,ρ,h,RR,(Post.bind p).mono fun xs H1 ⟨F1,m1,h1,ps,s1,R1,r1,w1⟩=>?_⟩
 split at w1
 ·rename_i j
  obtain ⟨x,rfl,rx⟩:=r1.one
  cases rx
  split at w1
  ·rename_i hz
   have hz':=bel_iff.mp hz
   exact ⟨j,rfl,by omega,by omega,Post.here w1 R1 fun H=>giv_rng 0 _⟩
  ·exact w1.elim
 ·exact w1.elim
def seqIt(p:PV)(h:List PO):Res (List PV):=match p with
 | .str l=>.ok (l.map fun c=>PV.str [c]) h
 | .tup xs=>.ok xs h
 | .lst xs=>.ok xs h
 | .giv xs=>.ok xs h
 | p=>match frzV h p with
  | some (.lst xs,h2)=>.ok xs h2
  | _=>.bad
def aSeq(f:Ex):Ax:=fun ρ h=>(f ρ h).bind seqIt
theorem ri_seq(ha:RE X T Ew a fa):RI X T Ew tg a (aSeq fa):=by with_unfolding_all
 intro pins s σ H R I ⟨F,m,ρ,h,RR,p⟩
 unfold aSeq at p
 have lst:(∀ p1 h1,fa ρ h= .ok p1 h1→(∀ l,p1≠.str l)∧(∀ l,p1≠.tup l))→wpAny (model X.prog X.w) X.A (eval a X.env) (fun v s1=>wpAny (model X.prog X.w) X.A (pyIter v) (PIE X pins σ tg R) X.xe s1) X.xe s:=fun hsh=>by
  refine pi_list ha pins s σ H R I ⟨F,m,ρ,h,RR,?_⟩
  cases q:fa ρ h with
  | bad=>rw [q] at p;exact p
  | exc e h'=>rw [q] at p;exact p
  | ok p1 h1=>
   obtain ⟨n1,n2⟩:=hsh p1 h1 q
   rw [q] at p
   intro F1 m1 H1 x s1 R1 r1
   have w1:=Post.step s1 (show Post X.K T _ F m H R Ew (seqIt p1 h1) from p)
   unfold seqIt at w1
   split at w1
   ·exact absurd rfl (n1 _)
   ·exact absurd rfl (n2 _)
   ·cases r1 with
    | lst ef rr=>exact ⟨_,rfl,⟨_,SqL.of (R1.same _ _ ef)⟩,Post.here w1 R1 fun H=>giv_lst (SqL.of ef) rr⟩
   ·cases r1 with
    | giv ef rr=>exact ⟨_,rfl,⟨_,R1.same.seq ef⟩,Post.here w1 R1 fun H=>giv_lst ef rr⟩
   ·split at w1
    ·rename_i xs h2 ef
     obtain ⟨F2,s2,R2,r2,_⟩:=frzV_rep R1 r1 ef
     cases r2 with
     | lst ef rr=>exact ⟨_,rfl,⟨_,SqL.of (R2.same _ _ ef)⟩,w1 F2 m1 H1 _ s2 R2 fun H=>giv_lst (SqL.of ef) rr⟩
    ·exact w1.elim
 cases q:fa ρ h with
 | bad=>rw [q] at p;exact p.elim
 | exc e h'=>exact lst fun p1 h1 z=>by rw [q] at z;cases z
 | ok p1 h1=>
  by_cases h1':∃ l,p1= .str l
  ·obtain ⟨l,rfl⟩:=h1'
   refine pi_str ha pins s σ H R I ⟨F,m,ρ,h,RR,?_⟩
   rw [q] at p ⊢
   intro F1 m1 H1 x s1 R1 r1
   have w1:=Post.step s1 (show Post X.K T _ F m H R Ew (seqIt (.str l) h1) from p)
   cases r1
   exact ⟨_,rfl,Post.here w1 R1 fun H=>giv_str l⟩
  ·by_cases h2':∃ l,p1= .tup l
   ·obtain ⟨l,rfl⟩:=h2'
    refine pi_tup ha pins s σ H R I ⟨F,m,ρ,h,RR,?_⟩
    rw [q] at p ⊢
    intro F1 m1 H1 x s1 R1 r1
    have w1:=Post.step s1 (show Post X.K T _ F m H R Ew (seqIt (.tup l) h1) from p)
    cases r1 with
    | tup ef rr=>exact ⟨_,rfl,⟨_,R1.same.seqT ef⟩,Post.here w1 R1 fun H=>giv_tup ef rr⟩
   ·exact lst fun p2 h2 z=>by
     rw [q] at z;cases z
     exact ⟨fun l z=>h1' ⟨l,z⟩,fun l z=>h2' ⟨l,z⟩⟩
def capP(caps:List Nat)(ρ:Ev):Ev:=caps.map fun i=>(ρ[i]?).getD none
def compL(tt:Tx)(te:Ex)(cp:Ev):List PV→List PO→Res (List PV)
 | [],h=>.ok [] h
 | p::r,h=>(tt (some p::cp) h).bind fun b h1=>if b=true then (te (some p::cp) h1).bind fun v h2=>(compL tt te cp r h2).bind fun vs h3=>.ok (v::vs) h3 else compL tt te cp r h1
def aComp(caps:List Nat)(it:Ax)(tt:Tx)(te:Ex):Ax:=fun ρ h=>(it ρ h).bind fun xs h1=>if xs.length<sizeLine then compL tt te (capP caps ρ) xs h1 else .bad
@[irreducible] def RFs(X:Cx)(T:Tab)(Ew:VK)(ifs:List Expr)(f:Tx):Prop:=PFs X ifs (wT X T Ew f)
def tYesE:Tx:=fun _ h=>.ok true h
theorem rf_nil:RFs X T Ew [] tYesE:=by with_unfolding_all exact (
  fun pins s σ H Q I ⟨F,m,ρ,h,R,p⟩=>pf_nil pins s σ H Q I (Post.here p R.toRelH rfl))
theorem RelE.cap{K:PySem.W.Frag}{F:Hp}{m:List Addr}{ρ:Ev}{σ:St}(r:RelE K T F m ρ σ)(caps:List Nat){p:PV}{v:V}(rp:RepV K T F m p v):RelE K T F m (some p::capP caps ρ) (some v::capS caps σ):=by
 refine ⟨by simp [capP,capS],fun i q e=>?_⟩
 cases i with
 | zero=>simp at e;subst e;exact ⟨v,rfl,rp⟩
 | succ j=>
  simp only [List.getElem?_cons_succ,capP,capS,List.getElem?_map] at e ⊢
  cases z:caps[j]? with
  | none=>rw [z] at e;simp at e
  | some k=>
   rw [z] at e
   simp only [Option.map_some,Option.some.injEq] at e ⊢
   have e':ρ[k]? =some (some q):=by
    cases y:ρ[k]? with
    | none=>rw [y] at e;cases e
    | some o=>rw [y] at e;simpa using e
   obtain ⟨u,h1,h2⟩:=r.2 k q e'
   exact ⟨u,by rw [h1];rfl,h2⟩
theorem comp_run{caps:List Nat}{it:Ax}{tt:Tx}{te:Ex}{σ:St}{H:Hp}{Q:VK}{g:List PV→List PO→Res PV}(hg:∀ F m h H ps vs,RelH X.K T F m h H→RepVs X.K T F m ps vs→Post X.K T (RepV X.K T) F m H Q Ew (g ps h)→∀ D,H D=none→Q (.ref D) (upd H D (.lst vs)))
  (w:wE X T Ew (cN g (aComp caps it tt te)) σ H Q):tComp caps (fun σ H R=>∃ F m ρ h,RelS X.K T F m ρ h σ H∧Post X.K T (fun F m xs J=>∀ H,GivP X.K T J xs F m H) F m H R Ew (it ρ h)) (wT X T Ew tt) (wE X T Ew te) σ H Q:=by
 obtain ⟨F,m,ρ,h,R,p⟩:=w
 have p0:Post X.K T (RepV X.K T) F m H Q Ew ((it ρ h).bind fun xs h1=>(if xs.length<sizeLine then compL tt te (capP caps ρ) xs h1 else .bad).bind g):=by
  have:(aComp caps it tt te ρ h).bind g=(it ρ h).bind fun xs h1=>(if xs.length<sizeLine then compL tt te (capP caps ρ) xs h1 else .bad).bind g:=by
   unfold aComp
   cases it ρ h<;>rfl
  rw [← this];exact p
 refine ⟨F,m,ρ,h,R,(Post.bind p0).mono fun J H1 ⟨F1,m1,h1,xs,s1,R1,G,w1⟩=>?_⟩
 by_cases hz:xs.length<sizeLine
 ·rw [if_pos hz] at w1
  refine ⟨fun i n acc H2=>n=xs.length - i∧i≤xs.length∧acc.length≤i∧∃ F2 m2 h2 as,Step F1 m1 H1 F2 m2 H2∧RelH X.K T F2 m2 h2 H2∧RepVs X.K T F2 m2 as acc∧
   Post X.K T (RepV X.K T) F2 m2 H2 Q Ew (((compL tt te (capP caps ρ) (xs.drop i) h2).bind fun vs h3=>g (as++vs) h3)),⟨_,rfl,Nat.zero_le _,Nat.le_refl _,F1,m1,h1,[],.refl,R1,.nil,by simpa using w1⟩,?_⟩
  rintro i n acc H2 ⟨rfl,hi,hac,F2,m2,h2,as,s2,R2,ra,w2⟩
  rcases Nat.lt_or_ge i xs.length with hlt | hge
  ·right
   refine ⟨(G H1).go i F2 m2 h2 H2 s2 R2 hlt,by omega,fun v H3 y=>?_⟩
   obtain ⟨F3,m3,p,s3,R3,ep,rp⟩:=(G H1).yld i F2 m2 h2 H2 v H3 s2 R2 hlt y
   have ed:xs.drop i=p::xs.drop (i+1):=by
    rw [List.drop_eq_getElem_cons hlt]
    rw [List.getElem?_eq_getElem hlt,Option.some.injEq] at ep
    rw [ep]
   rw [ed] at w2
   have w3:=Post.step s3 w2
   have eE:RelE X.K T F3 m3 (some p::capP caps ρ) (some v::capS caps σ):=(s3.env (s2.env (s1.env R.env))).cap caps rp
   have e0:((compL tt te (capP caps ρ) (p::xs.drop (i+1)) h2).bind fun vs h3=>g (as++vs) h3)=(tt (some p::capP caps ρ) h2).bind fun b h1=>
     if b=true then (te (some p::capP caps ρ) h1).bind fun v h2=>(compL tt te (capP caps ρ) (xs.drop (i+1)) h2).bind fun vs h3=>g (as++v::vs) h3 else (compL tt te (capP caps ρ) (xs.drop (i+1)) h1).bind fun vs h3=>g (as++vs) h3:=by
    rw [compL]
    cases tt (some p::capP caps ρ) h2 with
    | bad=>rfl
    | exc e h=>rfl
    | ok b h1=>
     cases b with
     | false=>rfl
     | true=>
      simp only [Res.bind_ok,if_true]
      cases te (some p::capP caps ρ) h1 with
      | bad=>rfl
      | exc e h=>rfl
      | ok v h4=>
       simp only [Res.bind_ok]
       cases compL tt te (capP caps ρ) (xs.drop (i+1)) h4<;>rfl
   rw [e0] at w3
   refine ⟨F3,m3,_,h2,⟨R3,eE⟩,(Post.bind w3).mono fun b H4 ⟨F4,m4,h4,b',s4,R4,eb,w4⟩=>?_⟩
   cases eb
   have s24:Step F1 m1 H1 F4 m4 H4:=(s2.trans s3).trans s4
   cases b with
   | false=>
    refine iteF ⟨xs.length - (i+1),by omega,rfl,by omega,by omega,F4,m4,h4,as,s24,R4,s4.reps (s3.reps ra),?_⟩
    simpa using w4
   | true=>
    simp only [if_true] at w4
    refine iteT ⟨F4,m4,_,h4,⟨R4,s4.env eE⟩,(Post.bind w4).mono fun y H5 ⟨F5,m5,h5,q,s5,R5,rq,w5⟩=>?_⟩
    refine ⟨xs.length - (i+1),by omega,rfl,by omega,by rw [List.length_append];simp;omega,F5,m5,h5,as++ [q],s24.trans s5,R5,(s5.reps (s4.reps (s3.reps ra))).append (.cons rq .nil),?_⟩
    have:(fun vs h3=>g (as++ [q]++vs) h3)=fun vs h3=>g (as++q::vs) h3:=by funext vs h3;simp
    rw [this];exact w5
  ·left
   have e:i=xs.length:=by omega
   subst e
   refine ⟨(G H1).stop F2 m2 h2 H2 s2 R2,fun D hD=>?_⟩
   rw [List.drop_length] at w2
   have w3:Post X.K T (RepV X.K T) F2 m2 H2 Q Ew (g as h2):=by simpa [compL] using w2
   exact hg F2 m2 h2 H2 as acc R2 ra w3 D hD
 ·rw [if_neg hz] at w1
  exact w1.elim
def okL(ps:List PV)(h:List PO):Res PV:=.ok (.lst ps) h
theorem re_comp{elt iter:Expr}{x:Str}{px:Pos}{ifs:List Expr}{scope:Scope}{it:Ax}{tt:Tx}{te:Ex}{M:List Str}(caps:List Nat)(hcalm:X.calm=true)(S:CompOk X.N X.env.scope scope caps x M)
  (hi:RI X T Ew (.Name x px) iter it) (ht:∀ cl C ex s H,RFs (cxComp X M scope cl C ex s H) T Ew ifs tt) (he:∀ cl C ex s H,RE (cxComp X M scope cl C ex s H) T Ew elt te)
  (hs:∀ y,foldedSetIterable iter X.env y=pure y:=by intro _;rfl):RE X T Ew (.ListComp elt [⟨.Name x px,iter,ifs,0⟩] scope pos) (cN okL (aComp caps it tt te)):=by with_unfolding_all exact (
 PE.imp (pe_comp (tt:=wT X T Ew tt) (te:=wE X T Ew te) caps hcalm S hi ht he hs) fun σ H Q w=>comp_run (fun F m h H ps vs R r w D hD=>post_lst w R r D hD) w)
end
end L3
namespace L3
open PySem PySem.Spec PyProof.Rows L2
inductive SR where
 | nx (ρ:Ev) (h:List PO) | rt (v:PV) (h:List PO) | bk (ρ:Ev) (h:List PO) | ct (ρ:Ev) (h:List PO) | exc (e:PV) (h:List PO) | bad
abbrev Sx:=Ev→List PO→SR
def PostS(K:PySem.W.Frag)(T:Tab)(F:Hp)(m:List Addr)(H:Hp)(D:Ends)(Ew:VK):SR→Prop
 | .nx ρ h=>∀ F' m' H' σ',Step F m H F' m' H'→RelS K T F' m' ρ h σ' H'→D.nx σ' H'
 | .bk ρ h=>∀ F' m' H' σ',Step F m H F' m' H'→RelS K T F' m' ρ h σ' H'→D.bk σ' H'
 | .ct ρ h=>∀ F' m' H' σ',Step F m H F' m' H'→RelS K T F' m' ρ h σ' H'→D.ct σ' H'
 | .rt v h=>∀ F' m' H' x,Step F m H F' m' H'→RelH K T F' m' h H'→RepV K T F' m' v x→D.rt x H'
 | .exc v h=>∀ F' m' H' x,Step F m H F' m' H'→RelH K T F' m' h H'→RepV K T F' m' v x→Ew x H'
 | .bad=>False
theorem PostS.step{K:PySem.W.Frag}{T:Tab}{F F1 H H1:Hp}{m m1:List Addr}{D:Ends}{Ew:VK}{r:SR}(s:Step F m H F1 m1 H1)(p:PostS K T F m H D Ew r):PostS K T F1 m1 H1 D Ew r:=by
 cases r with
 | nx ρ h=>exact fun F' m' H' x t=>p F' m' H' x (s.trans t)
 | bk ρ h=>exact fun F' m' H' x t=>p F' m' H' x (s.trans t)
 | ct ρ h=>exact fun F' m' H' x t=>p F' m' H' x (s.trans t)
 | rt v h=>exact fun F' m' H' x t=>p F' m' H' x (s.trans t)
 | exc v h=>exact fun F' m' H' x t=>p F' m' H' x (s.trans t)
 | bad=>exact p
section
variable (X:Cx) (T:Tab) (Ew:VK)
def wS(f:Sx):TS:=fun D σ H=>∃ F m ρ h,RelS X.K T F m ρ h σ H∧PostS X.K T F m H D Ew (f ρ h)
@[irreducible] def RS(st:Stmt)(f:Sx):Prop:=PS X st (wS X T Ew f)
@[irreducible] def RSs(st:List Stmt)(f:Sx):Prop:=PSs X st (wS X T Ew f)
end
def sNil:Sx:=fun ρ h=>.nx ρ h
def sSeq(f g:Sx):Sx:=fun ρ h=>match f ρ h with
 | .nx ρ1 h1=>g ρ1 h1
 | .rt v h1=>.rt v h1
 | .bk ρ1 h1=>.bk ρ1 h1
 | .ct ρ1 h1=>.ct ρ1 h1
 | .exc v h1=>.exc v h1
 | .bad=>.bad
def eThen(f:Res PV)(k:PV→List PO→SR):SR:=match f with
 | .ok v h=>k v h
 | .exc e h=>.exc e h
 | .bad=>.bad
def bThen(f:Res Bool)(k:Bool→List PO→SR):SR:=match f with
 | .ok v h=>k v h
 | .exc e h=>.exc e h
 | .bad=>.bad
def lThen(f:Res (List PV))(k:List PV→List PO→SR):SR:=match f with
 | .ok v h=>k v h
 | .exc e h=>.exc e h
 | .bad=>.bad
@[simp] theorem eThen_ok(v:PV)(h:List PO)(k:PV→List PO→SR):eThen (.ok v h) k=k v h:=rfl
@[simp] theorem bThen_ok(v:Bool)(h:List PO)(k:Bool→List PO→SR):bThen (.ok v h) k=k v h:=rfl
@[simp] theorem lThen_ok(v:List PV)(h:List PO)(k:List PV→List PO→SR):lThen (.ok v h) k=k v h:=rfl
@[simp] theorem eThen_bad(k:PV→List PO→SR):eThen .bad k= .bad:=rfl
@[simp] theorem bThen_bad(k:Bool→List PO→SR):bThen .bad k= .bad:=rfl
@[simp] theorem lThen_bad(k:List PV→List PO→SR):lThen .bad k= .bad:=rfl
def sRet(f:Ex):Sx:=fun ρ h=>eThen (f ρ h) fun v h1=>.rt v h1
def sDrop(f:Ex):Sx:=fun ρ h=>eThen (f ρ h) fun _ h1=>.nx ρ h1
def sIf(t:Tx)(f g:Sx):Sx:=fun ρ h=>bThen (t ρ h) fun b h1=>if b=true then f ρ h1 else g ρ h1
def sSet(i:Nat)(f:Ex):Sx:=fun ρ h=>eThen (f ρ h) fun v h1=>.nx (ρ.set i (some v)) h1
section
variable {X:Cx} {T:Tab} {Ew:VK} {a b c:Expr} {fa fb:Ex} {pos:Pos} {st:Stmt} {rest:List Stmt} {f g:Sx}
theorem post_e{K:PySem.W.Frag}{F H:Hp}{m:List Addr}{D:Ends}{r:Res PV}{k:PV→List PO→SR}(p:PostS K T F m H D Ew (eThen r k)):Post K T (RepV K T) F m H (fun x H1=>∃ F1 m1 h1 a,Step F m H F1 m1 H1∧RelH K T F1 m1 h1 H1∧RepV K T F1 m1 a x∧PostS K T F1 m1 H1 D Ew (k a h1)) Ew r:=by
 cases r with
 | ok a h=>exact fun F' m' H' x s r q=>⟨F',m',h,a,s,r,q,PostS.step s p⟩
 | exc e h=>exact p
 | bad=>exact p
theorem post_b{K:PySem.W.Frag}{F H:Hp}{m:List Addr}{D:Ends}{r:Res Bool}{k:Bool→List PO→SR}(p:PostS K T F m H D Ew (bThen r k)):Post K T RB F m H (fun x H1=>∃ F1 m1 h1,Step F m H F1 m1 H1∧RelH K T F1 m1 h1 H1∧PostS K T F1 m1 H1 D Ew (k x h1)) Ew r:=by
 cases r with
 | ok a h=>exact fun F' m' H' x s r q=>by cases q;exact ⟨F',m',h,s,r,PostS.step s p⟩
 | exc e h=>exact p
 | bad=>exact p
theorem post_l{K:PySem.W.Frag}{F H:Hp}{m:List Addr}{D:Ends}{β:Type}{RR:Hp→List Addr→List PV→β→Prop}{r:Res (List PV)}{k:List PV→List PO→SR}(p:PostS K T F m H D Ew (lThen r k)):Post K T RR F m H (fun x H1=>∃ F1 m1 h1 a,Step F m H F1 m1 H1∧RelH K T F1 m1 h1 H1∧RR F1 m1 a x∧PostS K T F1 m1 H1 D Ew (k a h1)) Ew r:=by
 cases r with
 | ok a h=>exact fun F' m' H' x s r q=>⟨F',m',h,a,s,r,q,PostS.step s p⟩
 | exc e h=>exact p
 | bad=>exact p
theorem rss_nil:RSs X T Ew [] sNil:=by with_unfolding_all exact (
  PSs.imp pss_nil fun D σ H ⟨F,m,ρ,h,R,p⟩=>p F m H σ .refl R)
theorem rss_one(h:RS X T Ew st f):RSs X T Ew [st] f:=by with_unfolding_all exact (
  pss_one h)
theorem rss_cons(h1:RS X T Ew st f)(h2:RSs X T Ew rest g):RSs X T Ew (st::rest) (sSeq f g):=by with_unfolding_all
 refine PSs.imp (pss_cons h1 h2) fun D σ H ⟨F,m,ρ,h,R,p⟩=>⟨F,m,ρ,h,R,?_⟩
 unfold sSeq at p
 cases q:f ρ h with
 | nx ρ1 h1=>rw [q] at p;exact fun F' m' H' σ' s R'=>⟨F',m',ρ1,h1,R',PostS.step s p⟩
 | rt v h1=>rw [q] at p;exact p
 | bk v h1=>rw [q] at p;exact p
 | ct v h1=>rw [q] at p;exact p
 | exc v h1=>rw [q] at p;exact p
 | bad=>rw [q] at p;exact p
theorem rs_ret(ha:RE X T Ew a fa):RS X T Ew (.Return (some a) pos) (sRet fa):=by with_unfolding_all exact (
 PS.imp (ps_ret ha) fun D σ H ⟨F,m,ρ,h,R,p⟩=>⟨F,m,ρ,h,R,(post_e p).mono fun x H1 ⟨F1,m1,h1,v,s1,R1,r1,w1⟩=>w1 F1 m1 H1 x .refl R1 r1⟩)
theorem rs_expr(ha:RE X T Ew a fa)(hs:swapsWith a none pos.line X.env=pure false:=by rfl):RS X T Ew (.Expr a pos) (sDrop fa):=by with_unfolding_all exact (
 PS.imp (ps_expr ha hs) fun D σ H ⟨F,m,ρ,h,R,p⟩=>⟨F,m,ρ,h,R,(post_e p).mono fun x H1 ⟨F1,m1,h1,v,s1,R1,r1,w1⟩=>w1 F1 m1 H1 σ .refl (R.of s1 R1)⟩)
theorem rs_if{t:Tx}{sa sb:List Stmt}(hc:RT X T Ew c t)(ha:RSs X T Ew sa f)(hb:RSs X T Ew sb g):RS X T Ew (.If c sa sb pos) (sIf t f g):=by with_unfolding_all
 refine PS.imp (ps_if hc ha hb) fun D σ H ⟨F,m,ρ,h,R,p⟩=>⟨F,m,ρ,h,R,(post_b p).mono fun x H1 ⟨F1,m1,h1,s1,R1,w1⟩=>?_⟩
 cases x with
 | true=>exact iteT ⟨F1,m1,ρ,h1,R.of s1 R1,w1⟩
 | false=>exact iteF ⟨F1,m1,ρ,h1,R.of s1 R1,w1⟩
theorem RelE.set{K:PySem.W.Frag}{F:Hp}{m:List Addr}{ρ:Ev}{σ:St}(r:RelE K T F m ρ σ)(i:Nat){p:PV}{v:V}(rp:RepV K T F m p v):RelE K T F m (ρ.set i (some p)) (σ.set i (some v)):=by
 refine ⟨by simp [r.1],fun j q e=>?_⟩
 by_cases hj:i=j
 ·subst hj
  have hi:i<ρ.length:=by
   rcases Nat.lt_or_ge i ρ.length with z | z
   ·exact z
   ·rw [List.getElem?_eq_none (by simpa using z)] at e;cases e
  rw [List.getElem?_set_self hi] at e
  cases e
  exact ⟨v,List.getElem?_set_self (by rw [← r.1];exact hi),rp⟩
 ·rw [List.getElem?_set_ne hj] at e ⊢
  exact r.2 j q e
theorem rs_set{i:Nat}{x:Str}{pos':Pos}(hN:X.N.Nodup)(hi:X.N[i]? =some x)(hx:Loc X.env.scope x)(ha:RE X T Ew a fa)(hs:swapsWith a (some (.Name x pos')) pos.line X.env=pure false:=by rfl)(hf:X.fn x=true∨X.env.scope.names.lookup x=some .local:=by first | exact .inl rfl | exact .inr rfl | assumption):
  RS X T Ew (.Assign [.Name x pos'] a pos) (sSet i fa):=by with_unfolding_all exact (
 PS.imp (ps_set hN hi hx ha hs hf) fun D σ H ⟨F,m,ρ,h,R,p⟩=>⟨F,m,ρ,h,R,(post_e p).mono fun v H1 ⟨F1,m1,h1,q,s1,R1,r1,w1⟩=>w1 F1 m1 H1 _ .refl ⟨R1,(s1.env R.env).set i r1⟩⟩)
abbrev Gx:=PV→Ev→Option Ev
@[irreducible] def RG(X:Cx)(T:Tab)(tg:Expr)(g:Gx):Prop:=PG X tg (fun v σ H Q=>∃ F m ρ h p ρ',RelS X.K T F m ρ h σ H∧RepV X.K T F m p v∧g p ρ=some ρ'∧∀ σ',RelE X.K T F m ρ' σ'→Q σ' H)
def gNm(i:Nat):Gx:=fun p ρ=>some (ρ.set i (some p))
theorem rg_name{i:Nat}{x:Str}{pos:Pos}(hN:X.N.Nodup)(hi:X.N[i]? =some x)(hx:Loc X.env.scope x)(hf:X.fn x=true∨X.env.scope.names.lookup x=some .local:=by first | exact .inl rfl | exact .inr rfl | assumption):RG X T (.Name x pos) (gNm i):=by with_unfolding_all
 intro pins s σ H v u Q I r ⟨F,m,ρ,h,p,ρ',R,rp,e,q⟩
 cases e
 exact pg_name hN hi hx hf pins s σ H v u Q I r (q _ (R.env.set i rp))
def loopS(g:Gx)(body:Sx):List PV→Sx
 | [],ρ,h=>.nx ρ h
 | p::r,ρ,h=>match g p ρ with
  | some ρ1=>match body ρ1 h with
   | .nx ρ2 h2=>loopS g body r ρ2 h2
   | .ct ρ2 h2=>loopS g body r ρ2 h2
   | .bk ρ2 h2=>.nx ρ2 h2
   | .rt v h2=>.rt v h2
   | .exc v h2=>.exc v h2
   | .bad=>.bad
  | none=>.bad
def sFor(it:Ax)(g:Gx)(body:Sx):Sx:=fun ρ h=>lThen (it ρ h) fun xs h1=>loopS g body xs ρ h1
theorem rs_for{tg iter:Expr}{it:Ax}{g:Gx}{body:List Stmt}(hp:PassesOwn (model X.prog X.w) X.A X.env X.xe)(hc:X.calm=true)(hi:RI X T Ew tg iter it)(hg:RG X T tg g)(hb:RSs X T Ew body f)
  (hs:∀ x,foldedSetIterable iter X.env x=pure x:=by intro _;rfl):RS X T Ew (.For tg iter body [] pos) (sFor it g f):=by with_unfolding_all
 refine PS.imp (ps_for hp hc hi hg hb hs) fun D σ H ⟨F,m,ρ,h,R,p⟩=>⟨F,m,ρ,h,R,(post_l p).mono fun J H1 ⟨F1,m1,h1,xs,s1,R1,G,w1⟩=>?_⟩
 refine ⟨fun i n σ2 H2=>n=xs.length - i∧i≤xs.length∧∃ F2 m2 ρ2 h2,Step F1 m1 H1 F2 m2 H2∧RelS X.K T F2 m2 ρ2 h2 σ2 H2∧PostS X.K T F2 m2 H2 D Ew (loopS g f (xs.drop i) ρ2 h2),⟨_,rfl,Nat.zero_le _,F1,m1,ρ,h1,.refl,R.of s1 R1,w1⟩,?_⟩
 rintro i n σ2 H2 ⟨rfl,hi',F2,m2,ρ2,h2,s2,R2,w2⟩
 rcases Nat.lt_or_ge i xs.length with hlt | hge
 ·right
  refine ⟨(G H1).go i F2 m2 h2 H2 s2 R2.toRelH hlt,fun σ' H'=>∃ m',m'<xs.length - i∧m'=xs.length - (i+1)∧i+1≤xs.length∧∃ F2 m2 ρ2 h2,Step F1 m1 H1 F2 m2 H'∧RelS X.K T F2 m2 ρ2 h2 σ' H'∧PostS X.K T F2 m2 H' D Ew (loopS g f (xs.drop (i+1)) ρ2 h2),fun σ' H' q=>q,fun v H3 y=>?_⟩
  obtain ⟨F3,m3,p,s3,R3,ep,rp⟩:=(G H1).yld i F2 m2 h2 H2 v H3 s2 R2.toRelH hlt y
  have ed:xs.drop i=p::xs.drop (i+1):=by
   rw [List.drop_eq_getElem_cons hlt]
   rw [List.getElem?_eq_getElem hlt,Option.some.injEq] at ep
   rw [ep]
  rw [ed] at w2
  have w3:=PostS.step s3 w2
  unfold loopS at w3
  cases q:g p ρ2 with
  | none=>rw [q] at w3;exact w3.elim
  | some ρ3=>
   rw [q] at w3
   dsimp only at w3
   refine ⟨F3,m3,ρ2,h2,p,ρ3,⟨R3,s3.env R2.env⟩,rp,q,fun σ3 r3=>⟨F3,m3,ρ3,h2,⟨R3,r3⟩,?_⟩⟩
   cases z:f ρ3 h2 with
   | nx ρ4 h4=>rw [z] at w3;exact fun F' m' H' σ' s' R'=>⟨xs.length - (i+1),by omega,rfl,by omega,F',m',ρ4,h4,(s2.trans s3).trans s',R',PostS.step s' w3⟩
   | ct ρ4 h4=>rw [z] at w3;exact fun F' m' H' σ' s' R'=>⟨xs.length - (i+1),by omega,rfl,by omega,F',m',ρ4,h4,(s2.trans s3).trans s',R',PostS.step s' w3⟩
   | bk ρ4 h4=>rw [z] at w3;exact w3
   | rt v4 h4=>rw [z] at w3;exact w3
   | exc v4 h4=>rw [z] at w3;exact w3
   | bad=>rw [z] at w3;exact w3
 ·left
  have e:i=xs.length:=by omega
  subst e
  rw [List.drop_length] at w2
  exact ⟨(G H1).stop F2 m2 h2 H2 s2 R2.toRelH,w2 F2 m2 H2 σ2 .refl R2⟩
def whl(t:Tx)(body:Sx):Nat→Sx
 | 0,_,_=>.bad
 | n+1,ρ,h=>bThen (t ρ h) fun b h1=>if b=true then match body ρ h1 with
   | .nx ρ2 h2=>whl t body n ρ2 h2
   | .ct ρ2 h2=>whl t body n ρ2 h2
   | .bk ρ2 h2=>.nx ρ2 h2
   | .rt v h2=>.rt v h2
   | .exc v h2=>.exc v h2
   | .bad=>.bad
  else .nx ρ h1
theorem rs_while_n(n:Nat){t:Tx}{body:List Stmt}(hp:PassesOwn (model X.prog X.w) X.A X.env X.xe)(hc:RT X T Ew c t)(hb:RSs X T Ew body f):RS X T Ew (.While c body [] pos) (whl t f n):=by with_unfolding_all
 refine PS.imp (ps_while hp hc hb) fun D σ H ⟨F,m,ρ,h,R,p⟩=>?_
 refine ⟨fun n σ H=>∃ F m ρ h,RelS X.K T F m ρ h σ H∧PostS X.K T F m H D Ew (whl t f n ρ h),⟨n,F,m,ρ,h,R,p⟩,?_⟩
 rintro n σ1 H1 ⟨F1,m1,ρ1,h1,R1,p1⟩
 cases n with
 | zero=>exact p1.elim
 | succ n=>
  refine ⟨F1,m1,ρ1,h1,R1,(post_b p1).mono fun b H2 ⟨F2,m2,h2,s2,R2,w2⟩=>?_⟩
  cases b with
  | false=>exact iteF (w2 F2 m2 H2 σ1 .refl (R1.of s2 R2))
  | true=>
   refine iteT ⟨fun σ' H'=>∃ m',m'<n+1∧∃ F m ρ h,RelS X.K T F m ρ h σ' H'∧PostS X.K T F m H' D Ew (whl t f m' ρ h),fun σ' H' q=>q,F2,m2,ρ1,h2,R1.of s2 R2,?_⟩
   simp only [if_true] at w2
   cases z:f ρ1 h2 with
   | nx ρ4 h4=>rw [z] at w2;exact fun F' m' H' σ' s' R'=>⟨n,by omega,F',m',ρ4,h4,R',PostS.step s' w2⟩
   | ct ρ4 h4=>rw [z] at w2;exact fun F' m' H' σ' s' R'=>⟨n,by omega,F',m',ρ4,h4,R',PostS.step s' w2⟩
   | bk ρ4 h4=>rw [z] at w2;exact w2
   | rt v4 h4=>rw [z] at w2;exact w2
   | exc v4 h4=>rw [z] at w2;exact w2
   | bad=>rw [z] at w2;exact w2
noncomputable def sWhile(t:Tx)(body:Sx):Sx:=fun ρ h=>open Classical in if q:∃ n,whl t body n ρ h≠.bad then whl t body q.choose ρ h else .bad
theorem rs_while{t:Tx}{body:List Stmt}(hp:PassesOwn (model X.prog X.w) X.A X.env X.xe)(hc:RT X T Ew c t)(hb:RSs X T Ew body f):RS X T Ew (.While c body [] pos) (sWhile t f):=by with_unfolding_all
 intro pins s σ H D I ⟨F,m,ρ,h,R,p⟩
 unfold sWhile at p
 split at p
 ·rename_i q
  exact rs_while_n q.choose hp hc hb pins s σ H D I ⟨F,m,ρ,h,R,p⟩
 ·exact p.elim
theorem whl_mono(t:Tx)(body:Sx):∀ (n:Nat) (ρ:Ev) (h:List PO),whl t body n ρ h≠.bad→whl t body (n+1) ρ h=whl t body n ρ h:=by
 intro n
 induction n with
 | zero=>intro ρ h q;exact absurd rfl q
 | succ n ih=>
  intro ρ h q
  rw [whl,whl] at *
  cases z:t ρ h with
  | bad=>rfl
  | exc e h=>rfl
  | ok b h1=>
   rw [z] at q
   simp only [bThen_ok] at q ⊢
   cases b with
   | false=>rfl
   | true=>
    simp only [if_true] at q ⊢
    cases y:body ρ h1 with
    | nx ρ2 h2=>rw [y] at q;exact ih ρ2 h2 q
    | ct ρ2 h2=>rw [y] at q;exact ih ρ2 h2 q
    | bk ρ2 h2=>rfl
    | rt ρ2 h2=>rfl
    | exc ρ2 h2=>rfl
    | bad=>rfl
theorem whl_le (t : Tx) (body : Sx) {n k : Nat} {ρ : Ev} {h : List PO} (q : whl t body n ρ h ≠ .bad) (hk : n ≤ k) : whl t body k ρ h = whl t body n ρ h := by
  induction k with
  | zero => have : n = 0 := by omega
            subst this; rfl
  | succ k ih =>
    rcases Nat.lt_or_ge n (k + 1) with z | z
    · have e := ih (by omega)
      rw [whl_mono t body k ρ h (by rw [e]; exact q), e]
    · have : n = k + 1 := by omega
      rw [this]
theorem sWhile_of(t:Tx)(body:Sx){n:Nat}{ρ:Ev}{h:List PO}(q:whl t body n ρ h≠.bad):sWhile t body ρ h=whl t body n ρ h:=by
 have e:∃ n,whl t body n ρ h≠.bad:=⟨n,q⟩
 unfold sWhile
 rw [dif_pos e]
 rcases Nat.le_total n e.choose with z | z
 ·exact whl_le t body q z
 ·exact (whl_le t body e.choose_spec z).symm
end
end L3
namespace L3
open PySem PySem.Spec PyProof.Rows L2
inductive Out where
 | ok (v:PV) | bad
def finO(v:PV)(h:List PO):Out:=match frzV h v with
 | some (q,_)=>.ok q
 | none=>.bad
def runF(f:Sx)(np n:Nat)(ps:List PV):Out:=if ps.length=np then match f (ps.map some++List.replicate (n - ps.length) none) [] with
  | .nx _ _=>.ok .non
  | .rt v h=>finO v h
  | _=>.bad
 else .bad
def spP(K:PySem.W.Frag)(T:Tab)(np:Nat)(fn:List PV→Out):Sp:=fun vs H Q _=>∃ F ps v,ps.length=np∧Same F H∧RepVs K T F [] ps vs∧fn ps= .ok v∧
 ∀ F' H' x,Same F F'→Same H H'→Same F' H'→(∀ a o,F' a=some o→F a=some o∨H a=none)→RepV K T F' [] v x→Q x H'
theorem spP_len{K:PySem.W.Frag}{T:Tab}{np:Nat}{fn:List PV→Out}{vs:List V}{H:Hp}{Q:VK}{E:XK}(h:spP K T np fn vs H Q E):vs.length=np:=by
 obtain ⟨F,ps,v,e,_,r,_⟩:=h
 rw [← r.length];exact e
section
variable {P:Program} {w:World} {K:PySem.W.Frag} {mg:Str→Option Value} {base:Heap} {T:Tab}
theorem rel_start{N:List Str}{F:Hp}{ps:List PV}{vs:List V}(r:RepVs K T F [] ps vs):RelE K T F [] (ps.map some++List.replicate (N.length - ps.length) none) (start N vs):=by
 unfold L2.start
 have hl:=r.length
 refine ⟨by simp [hl],fun i p e=>?_⟩
 rcases Nat.lt_or_ge i ps.length with hi | hi
 ·rw [List.getElem?_append_left (by simpa using hi),List.getElem?_map] at e
  cases q:ps[i]? with
  | none=>rw [q] at e;cases e
  | some p'=>
   rw [q] at e
   cases e
   obtain ⟨v,h1,h2⟩:=r.get q
   exact ⟨v,by rw [List.getElem?_append_left (by simp;omega),List.getElem?_map,h1];rfl,h2⟩
 ·rw [List.getElem?_append_right (by simpa using hi)] at e
  rw [List.getElem?_replicate] at e
  split at e<;>cases e
theorem fn_pure{x qual:Str}{st:Stmt}{f:Addr}{fd:FuncData}{N ps:List Str}{k:Nat}{g:Sx}(Fn:Fun K x qual st f fd)(Sc:FnScope N ps (defScope st))
  (hb:∀ (cdv:Value) (A:Around) (outer:List Env) (s:Shared) (H:Hp) (E:XK),Room k (A.deeper (envOfC qual (defScope st) s.heap.objs.size f cdv))→
   RSs (cxOf CX0 P w K mg base N qual (defScope st) f cdv A outer s H E).nox T (fun _ _=>False) (defBody st) g):
  FnOk P w K mg base CX0 (k+1) f fd ps (spP K T ps.length (runF g ps.length N.length)):=by with_unfolding_all
 refine Fn.ok Sc (fun vs H Q E h=>spP_len h) fun cdv A outer s H vs Q E hr h=>⟨_,hb cdv A outer s H E hr,?_⟩
 obtain ⟨F,qs,v,hl,sm,r,e,q⟩:=h
 have R0:RelS K T F [] (qs.map some++List.replicate (N.length - qs.length) none) [] (start N vs) H:=⟨⟨sm,rfl,fun i o a h1 h2=>by simp at h1,List.nodup_nil⟩,rel_start r⟩
 refine ⟨F,[],_,[],R0,?_⟩
 unfold runF at e
 rw [if_pos hl] at e
 have sameH:∀ {F' m' H'},Step F [] H F' m' H'→Same H H':=fun s b o hb=>s.fr b o hb (by simp)
 have fin:∀ {F' m' H' h' p x},Step F [] H F' m' H'→RelH K T F' m' h' H'→RepV K T F' m' p x→finO p h'= .ok v→Q x H':=by
  intro F' m' H' h' p x s R rp ef
  unfold finO at ef
  cases z:frzV h' p with
  | none=>rw [z] at ef;cases ef
  | some ab=>
   obtain ⟨p2,h2⟩:=ab
   rw [z] at ef
   cases ef
   obtain ⟨F2,s2,R2,r2,hp⟩:=frzV_rep R rp z
   refine q F2 H' x (s.fz.trans s2.fz) (sameH s) R2.same (fun a o ea=>?_) (r2.unref hp)
   rcases (s.trans s2).fnew a o ea with z | z | z
   ·exact .inl z
   ·exact .inr z
   ·simp at z
 cases z:g (qs.map some++List.replicate (N.length - qs.length) none) [] with
 | nx ρ h1=>
  rw [z] at e
  cases e
  exact fun F' m' H' σ' s R=>q F' H' .non s.fz (sameH s) R.same (fun a o ea=>by
   rcases s.fnew a o ea with z | z | z
   ·exact .inl z
   ·exact .inr z
   ·simp at z) .non
 | rt p h1=>
  rw [z] at e
  exact fun F' m' H' x s R rp=>fin s R rp e
 | bk _ _=>rw [z] at e;cases e
 | ct _ _=>rw [z] at e;cases e
 | exc _ _=>rw [z] at e;cases e
 | bad=>rw [z] at e;cases e
end
def callO(fn:List PV→Out)(ps:List PV)(h:List PO):Res PV:=match frzs ps h with
 | some (qs,h2)=>match fn qs with
  | .ok v=>.ok v h2
  | .bad=>.bad
 | none=>.bad
def cCall(fn:List PV→Out)(as:Ax):Ex:=fun ρ h=>(as ρ h).bind (callO fn)
section
variable {X:Cx} {T:Tab} {Ew:VK} {a b e:Expr} {es:List Expr} {fa fb:Ex} {fs:Ax} {pos p0:Pos} {k:Nat} {f:Addr} {fd:FuncData} {ps:List Str} {fn:List PV→Out} {x:Str}
theorem call_post{F H:Hp}{m:List Addr}{h:List PO}{Q:VK}{K:PySem.W.Frag}{np:Nat}{qs:List PV}{vs:List V}{E:XK}(hfn:∀ qs v,fn qs= .ok v→qs.length=np)(R:RelH K T F m h H)(r:RepVs K T F m qs vs)(w:Post K T (RepV K T) F m H Q Ew (callO fn qs h)):spP K T np fn vs H Q E:=by
 unfold callO at w
 cases z:frzs qs h with
 | none=>rw [z] at w;exact w.elim
 | some ab=>
  obtain ⟨q2,h2⟩:=ab
  rw [z] at w
  dsimp only at w
  obtain ⟨F2,s2,R2,r2,hp⟩:=frzs_rep R r z
  cases y:fn q2 with
  | bad=>rw [y] at w;exact w.elim
  | ok v=>
   rw [y] at w
   refine ⟨F2,q2,v,hfn _ _ y,R2.same,r2.unref hp,y,fun F' H' x a1 a2 a3 a4 rx=>?_⟩
   have s3:Step F2 m H F' m H':=⟨a1,⟨[],by simp⟩,fun b o hb _=>a2 b o hb,fun b o hb=>⟨o,a2 b o hb⟩,fun i a hi e=>(by rw [List.getElem?_eq_none hi] at e;cases e),fun a o ea=>(a4 a o ea).elim .inl (fun z=>.inr (.inl z))⟩
   refine w F' m H' x (s2.trans s3) ⟨a3,R2.len,fun i o a e1 e2=>?_,R2.nd⟩ (rx.mono (Same.refl _) fun i a e=>by simp at e)
   have q:=R2.obj i o a e1 e2
   have live:F2 a=none→(∃ u,H a=some u)→F' a=none:=fun n ⟨u,hu⟩=>by
    cases z:F' a with
    | none=>rfl
    | some o=>
     rcases a4 a o z with y | y
     ·rw [n] at y;cases y
     ·rw [hu] at y;cases y
   cases o with
   | lst xs=>obtain ⟨f0,ws,z,rr⟩:=q;exact ⟨live f0 ⟨_,z⟩,ws,a2 _ _ z,s3.reps rr⟩
   | dct xs=>obtain ⟨f0,ws,z,kk,rr⟩:=q;exact ⟨live f0 ⟨_,z⟩,ws,a2 _ _ z,kk,s3.reps rr⟩
   | froz p'=>obtain ⟨r1,r3,o,r4⟩:=q;exact ⟨s3.rep r1,r3,o,a1 _ _ r4⟩
theorem re_call(F:FnOk X.prog X.w X.K X.mg X.base CX0 k f fd ps (spP X.K T ps.length fn))(hfn:∀ qs v,fn qs= .ok v→qs.length=ps.length)(hr:Room k X.A)(hg:Gl X x)(hm:X.mg x=some (.ref f))(hk:PySem.W.keepIn X.K (.ref f)=true)(hb:Binds X.K fd ps [])
  (ha:RA X T Ew (e::es) fs) (hdb:(x==("__debug__":Str))=false:=by decide) (he:starEach (e::es) X.env=(false,eval e X.env)::starEach es X.env:=by rfl) (hpl:(backTo pos (starEach es X.env)).any (·.1)=false:=by rfl):
  RE X T Ew (.Call (.Name x p0) (e::es) [] pos) (cCall fn fs):=by with_unfolding_all
 refine PE.imp (pe_call F hr hg hm hk hb .nil pass0 ha hdb he hpl) fun σ H Q ⟨F,m,ρ,h,R,p⟩=>⟨F,m,ρ,h,R,(Post.bind p).mono fun vs H1 ⟨F1,m1,h1,qs,s1,R1,r1,w1⟩=>?_⟩
 rw [List.append_nil]
 exact call_post hfn R1 r1 w1
theorem re_call0(F:FnOk X.prog X.w X.K X.mg X.base CX0 k f fd ps (spP X.K T ps.length fn))(hfn:∀ qs v,fn qs= .ok v→qs.length=ps.length)(hr:Room k X.A)(hg:Gl X x)(hm:X.mg x=some (.ref f))(hk:PySem.W.keepIn X.K (.ref f)=true)(hb:Binds X.K fd ps [])
  (hdb:(x==("__debug__":Str))=false:=by decide):RE X T Ew (.Call (.Name x p0) [] [] pos) (cCall fn aNil):=by with_unfolding_all
 refine PE.imp (pe_call0 F hr hg hm hk hb .nil pass0 hdb) fun σ H Q ⟨F,m,ρ,h,R,p⟩=>?_
 exact call_post (qs:= []) (vs:= []) (E:=E0) hfn R.toRelH .nil p
theorem runF_len{f:Sx}{np n:Nat}:∀ qs v,runF f np n qs= .ok v→qs.length=np:=fun qs v h=>by
 unfold runF at h
 split at h
 ·assumption
 ·cases h
theorem re_globS{u:Value}{l:List Nat}(hg:Gl X x)(hm:X.mg x=some u)(r:RelV (.str (S l)) u)(hd:(x==("__debug__":Str))=false:=by decide):RE X T Ew (.Name x pos) (cK (.str l)):=by with_unfolding_all exact (
  re_const (pe_glob hg hm r hd) fun _ _=>.str l)
theorem re_globI{u:Value}{i:Int}(hg:Gl X x)(hm:X.mg x=some u)(r:RelV (.int i) u)(hd:(x==("__debug__":Str))=false:=by decide):RE X T Ew (.Name x pos) (cK (.int i)):=by with_unfolding_all exact (
  re_const (pe_glob hg hm r hd) fun _ _=>.int i)
end
end L3
namespace L3
open PySem PySem.Spec PyProof.Rows L2
def putP(kvs:List (PK×PV))(k:PK)(v:PV):List (PK×PV):=
 if (kvs.any fun kv=>decide (kv.1=k))=true then kvs.map (fun kv=>if kv.1=k then (kv.1,v) else kv) else kvs++ [(k,v)]
section
variable {K:PySem.W.Frag} {T:Tab} {F H:Hp} {m:List Addr}
def RepK(K:PySem.W.Frag)(T:Tab)(F:Hp)(m:List Addr)(kps:List (PK×PV))(kvs:List (Key×V)):Prop:=kvs.map (·.1)=kps.map (fun p=>tk p.1)∧RepVs K T F m (kps.map (·.2)) (kvs.map (·.2))
theorem RepK.nil:RepK K T F m [] []:=⟨rfl,.nil⟩
theorem RepK.any(k:PK):∀ {kps:List (PK×PV)} {kvs:List (Key×V)},kvs.map (·.1)=kps.map (fun p=>tk p.1)→(kvs.any fun kv=>decide (kv.1=tk k))=kps.any fun kv=>decide (kv.1=k)
 | [],[],_=>rfl
 | [],_::_,h=>by simp at h
 | _::_,[],h=>by simp at h
 | (k1,p1)::kps,(k2,v2)::kvs,h=>by
  simp only [List.map_cons,List.cons.injEq] at h
  rw [List.any_cons,List.any_cons,RepK.any k h.2]
  congr 1
  rw [h.1]
  by_cases e:k1=k
  ·subst e;simp
  ·have:¬ tk k1=tk k:=fun z=>e (tk_inj z)
   simp [e,this]
theorem RepK.repl{k:PK}{p:PV}{v:V}(r:RepV K T F m p v):∀ {kps:List (PK×PV)} {kvs:List (Key×V)},RepK K T F m kps kvs→RepK K T F m (kps.map fun kv=>if kv.1=k then (kv.1,p) else kv) (kvs.map fun kv=>if kv.1=tk k then (kv.1,v) else kv)
 | [],[],_=>.nil
 | [],_::_,h=>by have:=h.1;simp at this
 | _::_,[],h=>by have:=h.1;simp at this
 | (k1,p1)::kps,(k2,v2)::kvs,⟨h1,h2⟩=>by
  simp only [List.map_cons,List.cons.injEq] at h1 h2
  cases h2 with
  | cons a b=>
   obtain ⟨i1,i2⟩:=RepK.repl (k:=k) r (kps:=kps) (kvs:=kvs) ⟨h1.2,b⟩
   simp only [List.map_cons]
   by_cases e:k1=k
   ·subst e
    rw [if_pos h1.1,if_pos rfl]
    exact ⟨by simp only [List.map_cons,h1.1,i1],.cons r i2⟩
   ·have e2:¬ k2=tk k:=fun z=>e (tk_inj (h1.1.symm.trans z))
    rw [if_neg e2,if_neg e]
    exact ⟨by simp only [List.map_cons,h1.1,i1],.cons a i2⟩
theorem RepK.put{k:PK}{p:PV}{v:V}{kps:List (PK×PV)}{kvs:List (Key×V)}(h:RepK K T F m kps kvs)(r:RepV K T F m p v):RepK K T F m (putP kps k p) (putK kvs (tk k) v):=by
 unfold putP putK
 rw [RepK.any k h.1]
 split
 ·exact h.repl r
 ·exact ⟨by rw [List.map_append,List.map_append,h.1];rfl,by rw [List.map_append,List.map_append];exact h.2.append (.cons r .nil)⟩
theorem RepK.merge:∀ {more:List (PK×PV)} {mv:List (Key×V)} {kps:List (PK×PV)} {kvs:List (Key×V)},RepK K T F m more mv→RepK K T F m kps kvs→RepK K T F m (more.foldl (fun acc kv=>putP acc kv.1 kv.2) kps) (mergeK kvs mv)
 | [],[],_,_,_,h=>h
 | [],_::_,_,_,h,_=>by have:=h.1;simp at this
 | _::_,[],_,_,h,_=>by have:=h.1;simp at this
 | (k1,p1)::more,(k2,v2)::mv,kps,kvs,⟨h1,h2⟩,h=>by
  simp only [List.map_cons,List.cons.injEq] at h1 h2
  cases h2 with
  | cons a b=>
   show RepK K T F m (more.foldl _ (putP kps k1 p1)) (mergeK (putK kvs k2 v2) mv)
   rw [h1.1]
   exact RepK.merge ⟨h1.2,b⟩ (h.put a)
end
def cPairs:List (Ex×Ex)→Ev→List PO→Res (List (PK×PV))
 | [],_,h=>.ok [] h
 | (a,b)::r,ρ,h=>(a ρ h).bind fun x h1=>(b ρ h1).bind fun y h2=>match keyOf x with
  | some k=>(cPairs r ρ h2).bind fun ps h3=>.ok ((k,y)::ps) h3
  | none=>.bad
def mkD(ps:List (PK×PV)):List (PK×PV):=ps.foldl (fun acc kv=>putP acc kv.1 kv.2) []
def cDict(fs:List (Ex×Ex)):Ex:=fun ρ h=>(cPairs fs ρ h).bind fun ps h1=>.ok (.dct (mkD ps)) h1
@[irreducible] def RPs(X:Cx)(T:Tab)(Ew:VK)(pos:Pos)(keys:List (Option Expr))(values:List Expr)(fs:List (Ex×Ex)):Prop:=PPs X pos keys values (fs.map fun p=>(wE X T Ew p.1,wE X T Ew p.2))
section
variable {X:Cx} {T:Tab} {Ew:VK} {a b k v o e f:Expr} {fa fb fo:Ex} {pos apos cpos:Pos} {keys:List (Option Expr)} {values:List Expr} {fs:List (Ex×Ex)}
theorem rps_nil:RPs X T Ew pos [] [] []:=by with_unfolding_all exact (
  pps_nil)
theorem rps_cons(hk:RE X T Ew k fa)(hv:RE X T Ew v fb)(hr:RPs X T Ew pos keys values fs):RPs X T Ew pos (some k::keys) (v::values) ((fa,fb)::fs):=by with_unfolding_all exact (
  pps_cons hk hv hr)
theorem pairs_run{σ:St}{ρ:Ev}:∀ (fs:List (Ex×Ex)) {F:Hp} {m:List Addr} {h:List PO} {H:Hp} {Q:List (V×V)→Hp→Prop},RelS X.K T F m ρ h σ H→
  Post X.K T (fun F m ps vs=>∃ kvs:List (Key×V),vs=kvs.map (fun kv=>(kV kv.1,kv.2))∧RepK X.K T F m ps kvs) F m H Q Ew (cPairs fs ρ h)→tPairs (fs.map fun p=>(wE X T Ew p.1,wE X T Ew p.2)) σ H Q
 | [],F,m,h,H,Q,R,p=>Post.here p R.toRelH ⟨[],rfl,.nil⟩
 | (fa,fb)::fs,F,m,h,H,Q,R,p=>by
  refine ⟨F,m,ρ,h,R,(Post.bind p).mono fun x H1 ⟨F1,m1,h1,px,s1,R1,r1,w1⟩=>?_⟩
  refine ⟨F1,m1,ρ,h1,R.of s1 R1,(Post.bind w1).mono fun y H2 ⟨F2,m2,h2,py,s2,R2,r2,w2⟩=>?_⟩
  cases q:keyOf px with
  | none=>rw [q] at w2;exact w2.elim
  | some kk=>
   rw [q] at w2
   refine pairs_run fs ((R.of s1 R1).of s2 R2) ((Post.bind w2).mono fun vs H3 ⟨F3,m3,h3,ps,s3,R3,⟨kvs,e3,r3⟩,w3⟩=>?_)
   subst e3
   have ex:=keyOf_rep (s2.rep r1) q
   subst ex
   exact Post.here w3 R3 ⟨(tk kk,y)::kvs,rfl,by simp only [List.map_cons,r3.1],.cons (s3.rep r2) r3.2⟩
theorem disp_go{F F2 H H2:Hp}{m m2:List Addr}{p:Addr}{o u:HO}{h2:List PO}(R:∀ a o,F a=some o→H a=some o)(hp:H p=none)(s:Step F m (upd H p o) F2 m2 H2)(R2:RelH X.K T F2 m2 h2 H2)(hm:p∉m):H2 p=some o∧F2 p=none∧p∉m2∧
  Step F m H (upd F2 p u) m2 (upd H2 p u)∧RelH X.K T (upd F2 p u) m2 h2 (upd H2 p u):=by
 have e1:H2 p=some o:=s.fr p o upd_same hm
 have hF:F p=none:=by
  cases q:F p with
  | none=>rfl
  | some z=>rw [R p z q] at hp;cases hp
 have e2:F2 p=none:=by
  cases q:F2 p with
  | none=>rfl
  | some z=>
   rcases s.fnew p z q with y | y | y
   ·rw [hF] at y;cases y
   ·rw [upd_same] at y;cases y
   ·exact absurd y hm
 have e3:p∉m2:=fun z=>by
  rcases s.mem z with y | y
  ·exact hm y
  ·rw [upd_same] at y;cases y
 have sF:Same F2 (upd F2 p u):=same_new e2 u
 refine ⟨e1,e2,e3,⟨s.fz.trans sF,s.pre,fun b z hb n=>?_,fun b z hb=>?_,fun i a hi ea=>?_,fun a z ea=>?_⟩,⟨fun b z hb=>?_,R2.len,fun i ob a h1 h2'=>?_,R2.nd⟩⟩
 ·have hb':b≠p:=ne_of_none hb hp
  rw [upd_ne hb']
  exact s.fr b z (by rw [upd_ne hb'];exact hb) n
 ·have hb':b≠p:=ne_of_none hb hp
  obtain ⟨z',ez⟩:=s.dom b z (by rw [upd_ne hb'];exact hb)
  exact ⟨z',by rw [upd_ne hb'];exact ez⟩
 ·have q:=s.new i a hi ea
  have hb':a≠p:=fun z=>by rw [z,upd_same] at q;cases q
  rw [upd_ne hb'] at q;exact q
 ·by_cases ha:a=p
  ·subst ha;exact .inr (.inl hp)
  ·rw [upd_ne ha] at ea
   rcases s.fnew a z ea with y | y | y
   ·exact .inl y
   ·rw [upd_ne ha] at y;exact .inr (.inl y)
   ·exact .inr (.inr y)
 ·by_cases ha:b=p
  ·subst ha;rw [upd_same] at hb ⊢;exact hb
  ·rw [upd_ne ha] at hb ⊢;exact R2.same b z hb
 ·have hap:a≠p:=fun z=>e3 (by rw [← z];exact List.mem_of_getElem? h2')
  have q:=R2.obj i ob a h1 h2'
  cases ob with
  | lst xs=>obtain ⟨f0,ws,z,rr⟩:=q;exact ⟨by rw [upd_ne hap];exact f0,ws,by rw [upd_ne hap];exact z,rr.mono sF fun _ _ h=>h⟩
  | dct xs=>obtain ⟨f0,ws,z,kk,rr⟩:=q;exact ⟨by rw [upd_ne hap];exact f0,ws,by rw [upd_ne hap];exact z,kk,rr.mono sF fun _ _ h=>h⟩
  | froz p'=>obtain ⟨r1,r3,o,r4⟩:=q;exact ⟨r1.mono sF fun _ _ h=>h,r3,o,sF _ _ r4⟩
theorem RelH.fresh{K:PySem.W.Frag}{F H:Hp}{m:List Addr}{h:List PO}(R:RelH K T F m h H){p:Addr}(hp:H p=none):p∉m:=fun z=>by
 obtain ⟨i,e⟩:=List.mem_iff_getElem?.mp z
 have hi:i<h.length:=by
  rw [R.len]
  rcases Nat.lt_or_ge i m.length with q | q
  ·exact q
  ·rw [List.getElem?_eq_none q] at e;cases e
 have q:=R.obj i _ p (List.getElem?_eq_getElem hi) e
 cases ho:h[i] with
 | lst xs=>rw [ho] at q;obtain ⟨_,vs,z,_⟩:=q;rw [hp] at z;cases z
 | dct xs=>rw [ho] at q;obtain ⟨_,vs,z,_⟩:=q;rw [hp] at z;cases z
 | froz xs=>rw [ho] at q;obtain ⟨_,_,o,z⟩:=q;rw [R.same _ _ z] at hp;cases hp
theorem relS_lay{F H:Hp}{m:List Addr}{ρ:Ev}{h:List PO}{σ:St}(R:RelS X.K T F m ρ h σ H){p:Addr}(hp:H p=none)(o:HO):RelS X.K T F m ρ h σ (upd H p o):=by
 have hm:=R.toRelH.fresh hp
 refine ⟨⟨fun b u e=>?_,R.len,fun i ob a h1 h2=>?_,R.nd⟩,R.env⟩
 ·rw [upd_ne (ne_of_none (R.same _ _ e) hp)];exact R.same b u e
 ·have hap:a≠p:=fun z=>hm (by rw [← z];exact List.mem_of_getElem? h2)
  have q:=R.obj i ob a h1 h2
  cases ob with
  | lst xs=>obtain ⟨f0,ws,z,rr⟩:=q;exact ⟨f0,ws,by rw [upd_ne hap];exact z,rr⟩
  | dct xs=>obtain ⟨f0,ws,z,kk,rr⟩:=q;exact ⟨f0,ws,by rw [upd_ne hap];exact z,kk,rr⟩
  | froz p'=>exact q
theorem re_dict(h:RPs X T Ew pos keys values fs)(hall:keys.all (·.isSome)=true)(hl:keys.length=values.length)(h0:keys≠ [])(h15:keys.length≤15)(hfl:fs.length=keys.length):RE X T Ew (.Dict keys values pos) (cDict fs):=by with_unfolding_all
 refine PE.imp (pe_fz (pe_disp h hall hl h0 h15)) fun σ H Q ⟨F,m,ρ,hh,R,p⟩ pp hp=>?_
 have hm:=R.toRelH.fresh hp
 have R':=relS_lay R hp (.dK [])
 have hlen:∀ {fs:List (Ex×Ex)} {h ps h'},cPairs fs ρ h= .ok ps h'→ps.length=fs.length:=by
  intro fs
  induction fs with
  | nil=>intro h ps h' e;simp [cPairs] at e;rw [e.1];rfl
  | cons x r ih=>
   intro h ps h' e
   obtain ⟨fa,fb⟩:=x
   simp only [cPairs] at e
   cases q1:fa ρ h with
   | bad=>rw [q1] at e;cases e
   | exc _ _=>rw [q1] at e;cases e
   | ok x1 h1=>
    rw [q1] at e
    simp only [Res.bind_ok] at e
    cases q2:fb ρ h1 with
    | bad=>rw [q2] at e;cases e
    | exc _ _=>rw [q2] at e;cases e
    | ok y1 h2=>
     rw [q2] at e
     simp only [Res.bind_ok] at e
     cases q3:keyOf x1 with
     | none=>rw [q3] at e;cases e
     | some kk=>
      rw [q3] at e
      dsimp only at e
      cases q4:cPairs r ρ h2 with
      | bad=>rw [q4] at e;cases e
      | exc _ _=>rw [q4] at e;cases e
      | ok ps3 h3=>
       rw [q4] at e
       cases e
       simp [ih q4]
 unfold cDict at p
 refine pairs_run fs R' ?_
 cases q:cPairs fs ρ hh with
 | bad=>rw [q] at p;exact p
 | exc e1 h1=>
  rw [q] at p
  intro F2 m2 H2 x s2 R2 rx
  obtain ⟨e1,e2,e3,s3,R3⟩:=disp_go (u:=.dK []) R.same hp s2 R2 hm
  have hs:upd H2 pp (.dK [])=H2:=by
   funext b
   by_cases hb:b=pp
   ·subst hb;rw [upd_same,e1]
   ·rw [upd_ne hb]
  rw [hs] at s3 R3
  exact p _ m2 H2 x s3 R3 (rx.mono (same_new e2 _) fun _ _ h=>h)
 | ok ps h1=>
  rw [q] at p
  intro F2 m2 H2 vs s2 R2 ⟨kvs,ev,rk⟩
  obtain ⟨e1,e2,e3,_,_⟩:=disp_go (u:=.dK (mergeK [] kvs)) R.same hp s2 R2 hm
  have hkl:kvs.length=ps.length:=by have:=congrArg List.length rk.1;simpa using this
  refine ⟨e1,kvs,ev,by rw [hkl,hlen q,hfl];exact h15,?_⟩
  have rm:RepK X.K T F2 m2 (mkD ps) (mergeK [] kvs):=RepK.merge rk .nil
  refine .inr ⟨pp,_,upd_same,fun o=>?_⟩
  rw [upd_upd]
  obtain ⟨_,_,_,s3,R3⟩:=disp_go (u:=.frz o (.dK (mergeK [] kvs))) R.same hp s2 R2 hm
  have sF:Same F2 (upd F2 pp (.frz o (.dK (mergeK [] kvs)))):=same_new e2 _
  exact p _ m2 _ _ s3 R3 (.dct upd_same rm.1 (rm.2.mono sF fun _ _ h=>h))
end
end L3
namespace L3
open PySem PySem.Spec PyProof.Rows L2
def cChain(g g':PV→PV→List PO→Res PV)(a b c:Ex):Ex:=fun ρ h=>(a ρ h).bind fun x h1=>(b ρ h1).bind fun y h2=>(g x y h2).bind fun z h3=>match z with
 | .bl k=>if k=true then (c ρ h3).bind fun u h4=>g' y u h4 else .ok (.bl false) h3
 | _=>.bad
section
variable {X:Cx} {T:Tab} {Ew:VK} {a b c:Expr} {fa fb fc:Ex} {pos:Pos} {op op':CmpOp} {r r':R2} {g g':PV→PV→List PO→Res PV}
theorem chain_w(P:Prim2 X.K T r g)(P':Prim2 X.K T r' g'){σ:St}{H:Hp}{Q:VK}(w:wE X T Ew (cChain g g' fa fb fc) σ H Q):tChain r r' (wE X T Ew fa) (wE X T Ew fb) (wE X T Ew fc) σ H Q:=by
 obtain ⟨F,m,ρ,h,R,p⟩:=w
 refine ⟨F,m,ρ,h,R,(Post.bind p).mono fun x H1 ⟨F1,m1,h1,px,s1,R1,r1,w1⟩=>?_⟩
 refine ⟨F1,m1,ρ,h1,R.of s1 R1,(Post.bind w1).mono fun y H2 ⟨F2,m2,h2,py,s2,R2,r2,w2⟩=>?_⟩
 refine P F2 m2 h2 H2 x y px py _ Ew R2 (s2.rep r1) r2 ((Post.bind (R:=RepV X.K T) w2).mono fun z H3 ⟨F3,m3,h3,pz,s3,R3,r3,w3⟩=>?_)
 cases r3 with
 | bl k=>
  refine ⟨k,rfl,?_⟩
  cases k with
  | false=>exact iteF (Post.here w3 R3 (.bl _))
  | true=>
   refine iteT ⟨F3,m3,ρ,h3,((R.of s1 R1).of s2 R2).of s3 R3,(Post.bind w3).mono fun u H4 ⟨F4,m4,h4,pu,s4,R4,r4,w4⟩=>?_⟩
   exact P' F4 m4 h4 H4 y u py pu Q Ew R4 (s4.rep (s3.rep r2)) r4 w4
 | _=>exact w3.elim
theorem rt_chain(ho:OpR X (compareOp op) r)(P:Prim2 X.K T r g)(ho':OpR X (compareOp op') r')(P':Prim2 X.K T r' g')(ha:RE X T Ew a fa)(hb:RE X T Ew b fb)(hc:RE X T Ew c fc)(hm:lastMarks [op,op'] [b,c]=false:=by with_unfolding_all rfl):RT X T Ew (.Compare a [op,op'] [b,c] pos) (tCmpE (cChain g g' fa fb fc)):=by with_unfolding_all
 refine PT.imp (pt_chain ho ho' ha hb hc hm) fun σ H Q ⟨F,m,ρ,h,R,p⟩=>?_
 have p':=(Post.bind (R:=RepV X.K T) p).mono (Q':=fun x H1=>∃ k,x= .bl k∧Q k H1) fun x H1 ⟨F1,m1,h1,p1,s1,R1,r1,w1⟩=>by
  cases r1 with
  | bl k=>exact ⟨k,rfl,Post.here w1 R1 rfl⟩
  | _=>exact w1.elim
 exact chain_w P P' ⟨F,m,ρ,h,R,p'⟩
end
end L3
namespace L3
open PySem PySem.Spec PyProof.Rows L2
def spLaw(K:PySem.W.Frag):Sp:=fun vs H Q _=>∃ (a:Addr) (ns:List Int),vs= [.ref a]∧SqL K H a (ns.map V.int)∧ns.length≤63∧∀ H',Q (.bl true) H'
theorem reps_ints{K:PySem.W.Frag}{T:Tab}{F:Hp}{m:List Addr}:∀ ns:List Int,RepVs K T F m (ns.map PV.int) (ns.map V.int)
 | []=>.nil
 | n::r=>.cons (.int n) (reps_ints r)
theorem spLaw_imp{K:PySem.W.Frag}{T:Tab}{fn:List PV→Out}(h:∀ ns:List Int,ns.length≤63→fn [.giv (ns.map PV.int)]= .ok (.bl true)):∀ vs H Q E,spLaw K vs H Q E→spP K T 1 fn vs H Q E:=by
 rintro vs H Q E ⟨a,ns,rfl,sq,hl,q⟩
 refine ⟨fun b=>if b=a then H a else none,[.giv (ns.map PV.int)],.bl true,rfl,fun b o e=>?_,.cons (.giv ?_ (reps_ints ns)) .nil,h ns hl,fun F' H' x _ _ _ _ r=>?_⟩
 ·by_cases hb:b=a
  ·subst hb;have e':H b=some o:=by simpa using e
   exact e'
  ·have e':(none:Option HO)=some o:=by simpa [hb] using e
   cases e'
 ·rcases sq with (sq | ⟨o,sq⟩) | sq
  ·exact .inl (.inl (by simpa using sq))
  ·exact .inl (.inr ⟨o,by simpa using sq⟩)
  ·exact .inr sq
 ·cases r;exact q H'
theorem law_walk{l:PySem.W.OpenLaw}{k:Nat}{q:Program}{loose:List Str}{XP:(Str→Option Value)→Heap→Prop}{YP:World→Heap→Prop}{d:DefRec}{K:Params→PySem.W.Frag}{x:Str}(hn:l.most=some 63)(hdf:d.params.defaults= [])(hr:Room k callerA)
  (hY:∀ (w:World) (h:Heap),YP w h→(K w.params).In h)
  (F:∀ (w:World) (mg:Str→Option Value) (fa:Addr) (h:Heap),(K w.params).In h→h.Ns mainGlobals mg→mg d.name=some (.ref fa)→
   ∃ fd:FuncData,(∀ (s:Shared) (u:Value),BindsTo s fd ⟨[u],[]⟩ [(x,u)])∧∀ base:Heap,(K w.params).In base→base.Ns mainGlobals mg→FnOk l.prog w (K w.params) mg base CX0 k fa fd [x] (spLaw (K w.params))):
  PySem.W.WalkO q loose XP YP l.row.toRowW d [] (fun f vs=>PySem.call f vs):=
 L2.walk_of (n:=63) (k:=k) (x:=x) (CX:=fun _=>CX0) (sp:=fun w=>spLaw (K w.params)) hn (by decide) hdf hr hY F (fun _ _ a ns hl _ hS=>⟨a,ns,rfl,hS,hl,fun _=>rfl⟩) fun _ _ _ _ _ z=>z
end L3
namespace L2
open PySem PySem.Spec PyProof.Rows
section
variable {X:Cx}
end
end L2
namespace L3
open PySem PySem.Spec PyProof.Rows L2
section
variable {X:Cx} {T:Tab} {Ew:VK} {pos p0:Pos}
end
end L3
namespace L2
open PySem PySem.Spec PyProof.Rows PySem.Builtin PySem.Builtin.Str
section
variable {X:Cx}
theorem bools_of:∀ {bs:List Bool} {us:List Value},Vals (bs.map V.bl) us→LSm.BoolsAre us bs
 | [],_,.nil=>.nil
 | b::r,_,.cons e t=>by
  cases e
  exact .cons b (bools_of t)
theorem call_all(hc:X.calm=true):CallR X (.builtin "all") (fun xs H Q=>∃ (p:Addr) (bs:List Bool),xs= [.ref p]∧SqL X.K H p (bs.map V.bl)∧Q (.bl (bs.all id)) H):=by
 intro pins s σ H xs us Q I r h
 obtain ⟨p,bs,rfl,hq,q⟩:=h
 obtain ⟨u,rfl,ru⟩:=r.one
 cases ru
 obtain ⟨its,r',pl,hz⟩:=I.list hq
 have hl:=pl.isList
 have hb:=bools_of r'
 have hh:X.A.handled=none:=I.ok.hd hc
 have hlt:p<s.heap.objs.size:=by obtain ⟨_,e,_⟩:=hl;exact Heap.lt_size e
 refine call_all_walk (wpAny_pyIter_list hl ?_)
 refine ⟨s.heap.objs.size,[s.heap.objs.size,p],[s.heap.objs.size],its.toArray.size,_,_,fun i=>(bs[i]?).getD true,rfl,Walks.list (A:=X.A.in1) hh _ p (Nat.ne_of_lt hlt) its.toArray,
  ⟨⟨_,Heap.get?_push_size _ rfl,rfl,rfl⟩,hl.push _⟩,fun i v s' Q' E' hP hQ=>?_,fun h' tk hk=>?_⟩
 ·obtain ⟨b,e,rfl⟩:=hb.get i v (by simpa using hP)
  simp only [e,Option.getD_some] at hQ
  exact wpAny_truthy_bool hQ
 ·have e:((List.range its.toArray.size).all fun i=>(bs[i]?).getD true)=bs.all id:=by
   rw [List.size_toArray,hb.length];exact LSm.range_all bs
  rw [e]
  exact ⟨.bl _,H,I.kept (t':=tk) (LSm.kept_iter hk),rfl,q⟩
def kvD(D:List (List Nat×List Nat)):List (Key×V):=D.map fun p=>(.inr (L3.S p.1),.str (L3.S p.2))
structure GDict(P:Program)(w:World)(K:PySem.W.Frag)(a:Addr)(D:List (List Nat×List Nat)):Prop where
 ns:(a==sysModules)=false
 ex:∃ (o:Obj) (es:Array DictEntry) (ep:Nat) (vs:List (Key×Value)),K.lookup a=some o∧o.ExactDict∧o.data= .dict es ep∧KeysOf (mixKind P w) es∧Pairs (mixKind P w) es.toList vs∧(vs.map (·.1)).Nodup∧KV (kvD D) vs
theorem GDict.of{P:Program}{w:World}{K:PySem.W.Frag}{a:Addr}{D:List (List Nat×List Nat)}(g:GDict P w K a D){h:Heap}(k:K.In h):∃ vs,KV (kvD D) vs∧h.DictOf (mixKind P w) a vs:=by
 obtain ⟨o,es,ep,vs,e1,e2,e3,e4,e5,e6,e7⟩:=g.ex
 exact ⟨vs,e7,o,es,ep,k a o e1,e2,e3,e4,e5,e6⟩
end
end L2
namespace L3
open PySem PySem.Spec PyProof.Rows L2
section
variable {X:Cx} {T:Tab} {Ew:VK} {pos p0:Pos}
theorem rep_S{K:PySem.W.Frag}{F:Hp}{m:List Addr}(z:Str):RepV K T F m (.str z.cps.toList) (.str z):=by
 have:=RepV.str (K:=K) (T:=T) (F:=F) (m:=m) z.cps.toList
 rw [S_of] at this
 exact this
def boolsOf:List PV→Option (List Bool)
 | []=>some []
 | .bl b::r=>(boolsOf r).map (b:: ·)
 | _::_=>none
theorem boolsOf_rep{K:PySem.W.Frag}{F:Hp}{m:List Addr}:∀ {ps:List PV} {vs:List V} {bs:List Bool},boolsOf ps=some bs→RepVs K T F m ps vs→vs=bs.map V.bl
 | [],_,bs,e,.nil=>by simp [boolsOf] at e;subst e;rfl
 | p::r,_,bs,e,.cons rp rr=>by
  cases rp with
  | bl b=>
   simp only [boolsOf,Option.map_eq_some_iff] at e
   obtain ⟨b2,e2,rfl⟩:=e
   rw [boolsOf_rep e2 rr];rfl
  | _=>simp [boolsOf] at e
def pAll(ps:List PV)(h:List PO):Res PV:=match ps with
 | [p]=>match lsR h p with
  | some xs=>match boolsOf xs with
   | some bs=>.ok (.bl (bs.all id)) h
   | none=>.bad
  | none=>.bad
 | _=>.bad
theorem re_all{e:Expr}{es:List Expr}{f:Ax}(hg:Gl X "all")(hm:X.mg "all"=none)(ha:RA X T Ew (e::es) f)(hc:X.calm=true:=by rfl)
  (he:starEach (e::es) X.env=(false,eval e X.env)::starEach es X.env:=by rfl) (hpl:(backTo pos (starEach es X.env)).any (·.1)=false:=by rfl):
  RE X T Ew (.Call (.Name "all" p0) (e::es) [] pos) (cN pAll f):=by with_unfolding_all exact (
  re_callB (call_all hc) (by
 intro F m h H xs ps Q Ew R rp w
 unfold pAll at w
 split at w
 ·rename_i p
  obtain ⟨x,rfl,rx⟩:=rp.one
  cases e1:lsR h p with
  | none=>rw [e1] at w;exact w.elim
  | some ys=>
   rw [e1] at w
   cases e2:boolsOf ys with
   | none=>simp only [e2] at w;exact w.elim
   | some bs=>
    simp only [e2] at w
    obtain ⟨a,vs,rfl,ea,ra⟩:=lsR_rep R rx e1
    have ev:=boolsOf_rep e2 ra
    subst ev
    exact ⟨a,bs,rfl,ea,post_ok w R (.bl _)⟩
 ·exact w.elim) hg hm (by decide+kernel) ha (by decide) (by decide) he hpl)
def GTup(K:PySem.W.Frag)(a:Addr)(ls:List (List Nat)):Prop:=∃ (o:Obj) (its:Array Value) (n:Nat),K.lookup a=some o∧o.cls= .type "tuple"∧o.data= .seq its n∧its.size≤sizeLine∧Vals (ls.map fun l=>V.str (S l)) its.toList
theorem reps_ls{K:PySem.W.Frag}{F:Hp}{m:List Addr}:∀ ls:List (List Nat),RepVs K T F m (ls.map PV.str) (ls.map fun l=>V.str (S l))
 | []=>.nil
 | l::r=>.cons (.str l) (reps_ls r)
theorem re_globT{x:Str}{a:Addr}{ls:List (List Nat)}(hg:Gl X x)(hm:X.mg x=some (.ref a))(g:GTup X.K a ls)(hd:(x==("__debug__":Str))=false:=by decide):RE X T Ew (.Name x pos) (cK (.tup (ls.map PV.str))):=by with_unfolding_all exact (
  re_const (pe_glob (v:=.ref a) hg hm rfl hd) fun _ _=>.tup (.inr g) (reps_ls ls))
theorem re_globC{x:Str}{a:Addr}{C:Nat}(hg:Gl X x)(hm:X.mg x=some (.ref a))(hT:T C=some a)(hd:(x==("__debug__":Str))=false:=by decide):RE X T Ew (.Name x pos) (cK (.cls C)):=by with_unfolding_all exact (
  re_const (pe_glob (v:=.ref a) hg hm rfl hd) fun _ _=>.cls hT)
end
end L3
namespace L3
open PySem PySem.Spec PyProof.Rows L2
section
variable {X:Cx} {T:Tab} {Ew:VK} {a b:Expr} {fa fb:Ex} {pos:Pos}
end
end L3
namespace L2
open PySem PySem.Spec PyProof.Rows PySem.Builtin
section
variable {κ:Type} [DecidableEq κ]
end
section
variable {P:Program} {w:World} {A:Around} {R:Result→Shared→Prop} {it:Addr} {fp wr:List Addr} {G:Array GenState→Array GenState→Prop} {n:Nat} {Pn:Nat→Value→Prop} {St:Nat→Shared→Prop}
end
section
variable {P:Program} {w:World} {A:Around} {E:Value→Shared→Prop} {s:Shared}
end
section
variable {X:Cx} {e:Expr} {te:TE} {p1 p2 pos pos2:Pos}
end
end L2
namespace L3
open PySem PySem.Spec PyProof.Rows L2
section
variable {X:Cx} {T:Tab} {Ew:VK} {e:Expr} {f:Ex} {p1 p2 pos pos2:Pos}
end
end L3
namespace L2
open PySem PySem.Spec PyProof.Rows
end L2
namespace L3
open PySem PySem.Spec PyProof.Rows L2
section
variable {X:Cx} {T:Tab} {Ew:VK} {pos spos:Pos}
end
end L3
namespace L3
open PySem PySem.Spec PyProof.Rows L2
inductive OutX where
 | ok (v:PV) | exc (C:Nat) | bad
def finX(v:PV)(h:List PO):OutX:=match finO v h with
 | .ok q=>.ok q
 | .bad=>.bad
def runX(f:Sx)(np n:Nat)(ps:List PV):OutX:=if ps.length=np then match f (ps.map some++List.replicate (n - ps.length) none) [] with
  | .nx _ _=>.ok .non
  | .rt v h=>finX v h
  | .exc (.cls C) _=>.exc C
  | _=>.bad
 else .bad
def Ahead(F H F' H':Hp):Prop:=Same F F'∧Same H H'∧Same F' H'∧∀ a o,F' a=some o→F a=some o∨H a=none
def spX(K:PySem.W.Frag)(T:Tab)(np:Nat)(fn:List PV→OutX):Sp:=fun vs H Q E=>∃ F ps,ps.length=np∧Same F H∧RepVs K T F [] ps vs∧match fn ps with
 | .ok v=>∀ F' H' x,Ahead F H F' H'→RepV K T F' [] v x→Q x H'
 | .exc C=>∃ Ca,T C=some Ca∧∀ F' H',Ahead F H F' H'→E (.ref Ca) none H'
 | .bad=>False
theorem spX_len{K:PySem.W.Frag}{T:Tab}{np:Nat}{fn:List PV→OutX}{vs:List V}{H:Hp}{Q:VK}{E:XK}(h:spX K T np fn vs H Q E):vs.length=np:=by
 obtain ⟨F,ps,e,_,r,_⟩:=h
 rw [← r.length];exact e
def EwOf(E:XK):VK:=fun x H'=>∃ a,x=V.ref a∧E (.ref a) none H'
section
variable {P:Program} {w:World} {K:PySem.W.Frag} {mg:Str→Option Value} {base:Heap} {T:Tab}
theorem step_ahead{F H F' H':Hp}{m':List Addr}(s:Step F [] H F' m' H')(sm:Same F' H'):Ahead F H F' H':=⟨s.fz,fun b o hb=>s.fr b o hb (by simp),sm,fun a o ea=>by
 rcases s.fnew a o ea with z | z | z
 ·exact .inl z
 ·exact .inr z
 ·simp at z⟩
theorem fn_raise{x qual:Str}{st:Stmt}{f:Addr}{fd:FuncData}{N ps:List Str}{k:Nat}{g:Sx}(Fn:Fun K x qual st f fd)(Sc:FnScope N ps (defScope st))
  (hb:∀ (cdv:Value) (A:Around) (outer:List Env) (s:Shared) (H:Hp) (E:XK),Room k (A.deeper (envOfC qual (defScope st) s.heap.objs.size f cdv))→
   RSs (cxOf (CXE P w) P w K mg base N qual (defScope st) f cdv A outer s H E) T (EwOf E) (defBody st) g):
  FnOk P w K mg base (CXE P w) (k+1) f fd ps (spX K T ps.length (runX g ps.length N.length)):=by with_unfolding_all
 obtain ⟨oc,od,kV,doc,pm,an,cdv,ct,osl,rfl,lk,hcd⟩:=Fn.ex
 refine fn_of lk hcd Sc (fun vs H Q E h=>spX_len h) fun A outer s H vs Q E hr h=>⟨_,hb cdv A outer s H E hr,?_⟩
 obtain ⟨F,qs,hl,sm,r,q⟩:=h
 have R0:RelS K T F [] (qs.map some++List.replicate (N.length - qs.length) none) [] (start N vs) H:=⟨⟨sm,rfl,fun i o a h1 h2=>by simp at h1,List.nodup_nil⟩,rel_start r⟩
 refine ⟨F,[],_,[],R0,?_⟩
 unfold runX at q
 rw [if_pos hl] at q
 cases z:g (qs.map some++List.replicate (N.length - qs.length) none) [] with
 | nx ρ h1=>
  rw [z] at q
  exact fun F' m' H' σ' s R=>q F' H' .non (step_ahead s R.same) .non
 | rt p h1=>
  rw [z] at q
  intro F' m' H' x s R rp
  dsimp only [finX,finO] at q
  cases y:frzV h1 p with
  | none=>rw [y] at q;exact q.elim
  | some ab=>
   obtain ⟨p2,h2⟩:=ab
   rw [y] at q
   obtain ⟨F2,s2,R2,r2,hp⟩:=frzV_rep R rp y
   exact q F2 H' x (step_ahead (s.trans s2) R2.same) (r2.unref hp)
 | exc e h1=>
  rw [z] at q
  cases e with
  | cls C=>
   intro F' m' H' x s R rp
   obtain ⟨Ca,hCa,q⟩:=q
   cases rp with
   | cls c=>
    rw [hCa] at c
    cases c
    exact ⟨_,rfl,q F' H' (step_ahead s R.same)⟩
  | _=>exact q.elim
 | bk _ _=>rw [z] at q;exact q.elim
 | ct _ _=>rw [z] at q;exact q.elim
 | bad=>rw [z] at q;exact q.elim
end
def callX(fn:List PV→OutX)(ps:List PV)(h:List PO):Res PV:=match frzs ps h with
 | some (qs,h2)=>match fn qs with
  | .ok v=>.ok v h2
  | .exc C=>.exc (.cls C) h2
  | .bad=>.bad
 | none=>.bad
def cCallX(fn:List PV→OutX)(as:Ax):Ex:=fun ρ h=>(as ρ h).bind (callX fn)
structure FnX(T:Tab)(np:Nat)(fn:List PV→OutX):Prop where
 len:∀ qs,fn qs≠.bad→qs.length=np
 cls:∀ qs C,fn qs= .exc C→∃ Ca,T C=some Ca
section
variable {X:Cx} {T:Tab} {E:XK} {a b e:Expr} {es:List Expr} {fa fb:Ex} {fs:Ax} {pos p0:Pos} {k:Nat} {f:Addr} {fd:FuncData} {ps:List Str} {fn:List PV→OutX} {x:Str}
theorem callX_post{F H:Hp}{m:List Addr}{h:List PO}{Q:VK}{K:PySem.W.Frag}{np:Nat}{qs:List PV}{vs:List V}(hfn:FnX T np fn)(R:RelH K T F m h H)(r:RepVs K T F m qs vs)(w:Post K T (RepV K T) F m H Q (EwOf E) (callX fn qs h)):spX K T np fn vs H Q E:=by
 unfold callX at w
 cases z:frzs qs h with
 | none=>rw [z] at w;exact w.elim
 | some ab=>
  obtain ⟨q2,h2⟩:=ab
  rw [z] at w
  dsimp only at w
  obtain ⟨F2,s2,R2,r2,hp⟩:=frzs_rep R r z
  have go:∀ {F' H'},Ahead F2 H F' H'→Step F m H F' m H'∧RelH K T F' m h2 H':=by
   intro F' H' ⟨a1,a2,a3,a4⟩
   have s3:Step F2 m H F' m H':=⟨a1,⟨[],by simp⟩,fun b o hb _=>a2 b o hb,fun b o hb=>⟨o,a2 b o hb⟩,fun i a hi e=>(by rw [List.getElem?_eq_none hi] at e;cases e),fun a o ea=>(a4 a o ea).elim .inl (fun z=>.inr (.inl z))⟩
   refine ⟨s2.trans s3,a3,R2.len,fun i o a e1 e2=>?_,R2.nd⟩
   have q:=R2.obj i o a e1 e2
   have live:F2 a=none→(∃ u,H a=some u)→F' a=none:=fun n ⟨u,hu⟩=>by
    cases z:F' a with
    | none=>rfl
    | some o=>
     rcases a4 a o z with y | y
     ·rw [n] at y;cases y
     ·rw [hu] at y;cases y
   cases o with
   | lst xs=>obtain ⟨f0,ws,z,rr⟩:=q;exact ⟨live f0 ⟨_,z⟩,ws,a2 _ _ z,s3.reps rr⟩
   | dct xs=>obtain ⟨f0,ws,z,kk,rr⟩:=q;exact ⟨live f0 ⟨_,z⟩,ws,a2 _ _ z,kk,s3.reps rr⟩
   | froz p'=>obtain ⟨r1,r3,o,r4⟩:=q;exact ⟨s3.rep r1,r3,o,a1 _ _ r4⟩
  refine ⟨F2,q2,hfn.len q2 (fun y=>by rw [y] at w;exact w.elim),R2.same,r2.unref hp,?_⟩
  cases y:fn q2 with
  | bad=>rw [y] at w;exact w.elim
  | ok v=>
   rw [y] at w
   intro F' H' x ah rx
   obtain ⟨s,R'⟩:=go ah
   exact w F' m H' x s R' (rx.mono (Same.refl _) fun i a e=>by simp at e)
  | exc C=>
   rw [y] at w
   obtain ⟨Ca,hC⟩:=hfn.cls q2 C y
   refine ⟨Ca,hC,fun F' H' ah=>?_⟩
   obtain ⟨s,R'⟩:=go ah
   obtain ⟨a,e1,e2⟩:=w F' m H' (.ref Ca) s R' (.cls hC)
   cases e1
   exact e2
theorem re_callX(F:FnOk X.prog X.w X.K X.mg X.base (CXE X.prog X.w) k f fd ps (spX X.K T ps.length fn))(hfn:FnX T ps.length fn)(hp:Passes (CXE X.prog X.w) X E)(hr:Room k X.A)(hg:Gl X x)(hm:X.mg x=some (.ref f))(hk:PySem.W.keepIn X.K (.ref f)=true)(hb:Binds X.K fd ps [])
  (ha:RA X T (EwOf E) (e::es) fs) (hdb:(x==("__debug__":Str))=false:=by decide) (he:starEach (e::es) X.env=(false,eval e X.env)::starEach es X.env:=by rfl) (hpl:(backTo pos (starEach es X.env)).any (·.1)=false:=by rfl):
  RE X T (EwOf E) (.Call (.Name x p0) (e::es) [] pos) (cCallX fn fs):=by with_unfolding_all
 refine PE.imp (pe_call F hr hg hm hk hb .nil hp ha hdb he hpl) fun σ H Q ⟨F,m,ρ,h,R,p⟩=>⟨F,m,ρ,h,R,(Post.bind p).mono fun vs H1 ⟨F1,m1,h1,qs,s1,R1,r1,w1⟩=>?_⟩
 rw [List.append_nil]
 exact callX_post hfn R1 r1 w1
end
def sRaise(C:Nat)(as:Ax):Sx:=fun ρ h=>match as ρ h with
 | .ok qs h1=>if qs.length≤sizeLine then .exc (.cls C) h1 else .bad
 | .exc e h1=>.exc e h1
 | .bad=>.bad
theorem rs_raise{X:Cx}{T:Tab}{E:XK}{x:Str}{C:Nat}{Ca:Addr}{np cpos pos:Pos}{e0:Expr}{es:List Expr}{fs:Ax}{bmB bmN:List Value}{B Bn newId nid initId inN:String}
  (Fn:ExcBaseFacts Bn newId inN bmN) (hBn:bmB.contains (.type Bn)=true) (FB:ExcBaseFacts B nid initId bmB) (ok:PySem.W.excIn X.K Ca bmB newId=true) (hC:T C=some Ca) (hg:Gl X x) (hm:X.mg x=some (.ref Ca)) (l:Lv X E)
  (ha:RA X T (EwOf E) (e0::es) fs) (hc:X.calm=true:=by rfl) (hdb:(x==("__debug__":Str))=false:=by decide) (he:starEach (e0::es) X.env=(false,eval e0 X.env)::starEach es X.env:=by rfl) (hpl:(backTo cpos (starEach es X.env)).any (·.1)=false:=by rfl):
  RS X T (EwOf E) (.Raise (some (.Call (.Name x np) (e0::es) [] cpos)) none pos) (sRaise C fs):=by with_unfolding_all
 refine PS.imp (ps_raise Fn hBn FB ok hg hm hc l ha hdb he hpl) fun D σ H ⟨F,m,ρ,h,R,p⟩=>⟨F,m,ρ,h,R,?_⟩
 unfold sRaise at p
 cases z:fs ρ h with
 | ok qs h1=>
  rw [z] at p
  dsimp only at p
  split at p
  ·rename_i hl
   intro F' m' H' vs s R' r
   refine ⟨by rw [← r.length];exact hl,?_⟩
   obtain ⟨a,e1,e2⟩:=p F' m' H' (.ref Ca) s R' (.cls hC)
   cases e1
   exact e2
  ·exact p.elim
 | exc e h1=>rw [z] at p;exact p
 | bad=>rw [z] at p;exact p
def sTry(cat:Nat→Bool)(g:Sx)(i n:Nat)(gs:Sx):Sx:=fun ρ h=>match g ρ h with
 | .exc (.cls C) h1=>if cat C=true then (match gs ((List.replicate n none).set i (some (.exc C))) h1 with
  | .rt v h2=>.rt v h2
  | _=>.bad) else .bad
 | .exc _ _=>.bad
 | r=>r
theorem rs_try{X:Cx}{T:Tab}{Ew:VK}{cat:Nat→Bool}{body suite:List Stmt}{b0:Stmt}{g gs:Sx}{t n:Str}{Ta:Addr}{i:Nat}{tp hpos pos:Pos}(hcat:∀ C Ca,cat C=true→T C=some Ca→PySem.W.exmOne X.K (.ref Ca) (.ref Ta)=some true)
  (hb:∀ pn W Eb,Passes (CXE X.prog X.w) (X.tried pn W) Eb→RSs (X.tried pn W) T (EwOf Eb) body g) (hs:∀ pn a,RSs (X.suite pn a) T (fun _ _=>False) (b0::suite) gs)
  (hN:X.N.Nodup) (hi:X.N[i]? =some n) (hn:X.env.scope.names.lookup n=some .local) (hg:Gl X t) (hm:X.mg t=some (.ref Ta)) (stk:X.stack=X.env::X.outer:=by rfl) (hf:X.env.frame=some X.env.locals:=by rfl) (hdb:(t==("__debug__":Str))=false:=by decide):
  RS X T Ew (.Try body [.ExceptHandler (some (.Name t tp)) (some n) (b0::suite) hpos] [] [] pos) (sTry cat g i X.N.length gs):=by with_unfolding_all
 refine PS.imp (ps_try (tb:=fun Eb=>wS X T (EwOf Eb) g) (ts:=wS X T (fun _ _=>False) gs) stk hf hb hs hN hi hn hg hm hdb) fun D σ H ⟨F,m,ρ,h,R,p⟩=>⟨F,m,ρ,h,R,?_⟩
 unfold sTry at p
 cases z:g ρ h with
 | nx ρ1 h1=>rw [z] at p;exact p
 | rt v h1=>rw [z] at p;exact p
 | bk ρ1 h1=>rw [z] at p;exact p
 | ct ρ1 h1=>rw [z] at p;exact p
 | bad=>rw [z] at p;exact p
 | exc e h1=>
  rw [z] at p
  cases e with
  | cls C=>
   dsimp only at p
   split at p
   ·rename_i hC
    intro F' m' H' x s R' rx
    cases rx with
    | @cls _ Ca c=>
     refine ⟨Ca,rfl,hcat C Ca hC c,fun a σ' hl na=>?_⟩
     obtain ⟨s2,R2⟩:=Step.lay (o:=ExcO a (.ref Ca)) R' na
     have re:RepV X.K T (upd F' a (ExcO a (.ref Ca))) m' (.exc C) (.ref a):=.exc c upd_same
     refine ⟨_,m',(List.replicate X.N.length none).set i (some (.exc C)),h1,⟨R2,by simp [hl],fun j q ej=>?_⟩,?_⟩
     ·by_cases hj:i=j
      ·subst hj
       rw [List.getElem?_set_self (by
        rcases Nat.lt_or_ge i (List.replicate X.N.length (none:Option PV)).length with y | y
        ·exact y
        ·rw [List.getElem?_eq_none (by simpa using y)] at ej;cases ej)] at ej
       cases ej
       have hi':i<σ'.length:=by rw [hl];exact (List.getElem?_eq_some_iff.mp hi).1
       exact ⟨_,List.getElem?_set_self hi',re⟩
      ·rw [List.getElem?_set_ne hj,List.getElem?_replicate] at ej
       split at ej<;>cases ej
     ·cases y:gs ((List.replicate X.N.length none).set i (some (.exc C))) h1 with
      | rt v h2=>
       rw [y] at p
       exact fun F2 m2 H2 x t2 R3 rx=>p F2 m2 H2 x ((s.trans s2).trans t2) R3 rx
      | nx _ _=>rw [y] at p;exact p.elim
      | bk _ _=>rw [y] at p;exact p.elim
      | ct _ _=>rw [y] at p;exact p.elim
      | exc _ _=>rw [y] at p;exact p.elim
      | bad=>rw [y] at p;exact p.elim
   ·exact p.elim
  | _=>exact p.elim
end L3
namespace L3
open PySem PySem.Spec PyProof.Rows L2
section
variable {P:Program} {w:World} {K:PySem.W.Frag} {mg:Str→Option Value} {base:Heap} {T:Tab}
theorem fn_pureH{x qual:Str}{st:Stmt}{f:Addr}{fd:FuncData}{N ps:List Str}{k:Nat}{g:Sx}(Fn:Fun K x qual st f fd)(Sc:FnScope N ps (defScope st))
  (hb:∀ (cdv:Value) (A:Around) (outer:List Env) (s:Shared) (H:Hp) (E:XK),RoomH k (A.deeper (envOfC qual (defScope st) s.heap.objs.size f cdv))→
   RSs (cxH P w K mg base N qual (defScope st) f cdv A outer s H E) T (fun _ _=>False) (defBody st) g):
  FnOkH P w K mg base (k+1) f fd ps (spP K T ps.length (runF g ps.length N.length)):=by with_unfolding_all
 refine fn_ofH Fn Sc (fun vs H Q E h=>spP_len h) fun cdv A outer s H vs Q E hr h=>⟨_,hb cdv A outer s H E hr,?_⟩
 obtain ⟨F,qs,v,hl,sm,r,e,q⟩:=h
 have R0:RelS K T F [] (qs.map some++List.replicate (N.length - qs.length) none) [] (start N vs) H:=⟨⟨sm,rfl,fun i o a h1 h2=>by simp at h1,List.nodup_nil⟩,rel_start r⟩
 refine ⟨F,[],_,[],R0,?_⟩
 unfold runF at e
 rw [if_pos hl] at e
 cases z:g (qs.map some++List.replicate (N.length - qs.length) none) [] with
 | nx ρ h1=>
  rw [z] at e
  cases e
  intro F' m' H' σ' s R
  obtain ⟨a1,a2,a3,a4⟩:=step_ahead s R.same
  exact q F' H' .non a1 a2 a3 a4 .non
 | rt p h1=>
  rw [z] at e
  intro F' m' H' x s R rp
  dsimp only [finO] at e
  cases y:frzV h1 p with
  | none=>rw [y] at e;cases e
  | some ab=>
   obtain ⟨p2,h2⟩:=ab
   rw [y] at e
   cases e
   obtain ⟨F2,s2,R2,r2,hp⟩:=frzV_rep R rp y
   obtain ⟨a1,a2,a3,a4⟩:=step_ahead (s.trans s2) R2.same
   exact q F2 H' x a1 a2 a3 a4 (r2.unref hp)
 | bk _ _=>rw [z] at e;cases e
 | ct _ _=>rw [z] at e;cases e
 | exc _ _=>rw [z] at e;cases e
 | bad=>rw [z] at e;cases e
end
section
variable {X:Cx} {T:Tab} {Ew:VK} {e:Expr} {es:List Expr} {fs:Ax} {pos p0:Pos} {k:Nat} {f:Addr} {fd:FuncData} {ps:List Str} {fn:List PV→Out} {x:Str}
theorem re_callH(F:FnOkH X.prog X.w X.K X.mg X.base k f fd ps (spP X.K T ps.length fn))(hfn:∀ qs v,fn qs= .ok v→qs.length=ps.length)(hr:RoomH k X.A)(hg:Gl X x)(hm:X.mg x=some (.ref f))(hk:PySem.W.keepIn X.K (.ref f)=true)(hb:Binds X.K fd ps [])
  (ha:RA X T Ew (e::es) fs) (hdb:(x==("__debug__":Str))=false:=by decide) (he:starEach (e::es) X.env=(false,eval e X.env)::starEach es X.env:=by rfl) (hpl:(backTo pos (starEach es X.env)).any (·.1)=false:=by rfl):
  RE X T Ew (.Call (.Name x p0) (e::es) [] pos) (cCall fn fs):=by with_unfolding_all
 refine PE.imp (pe_callH F hr hg hm hk hb ha hdb he hpl) fun σ H Q ⟨F,m,ρ,h,R,p⟩=>⟨F,m,ρ,h,R,(Post.bind p).mono fun vs H1 ⟨F1,m1,h1,qs,s1,R1,r1,w1⟩=>?_⟩
 rw [List.append_nil]
 exact call_post hfn R1 r1 w1
end
end L3
namespace L3
open PySem PySem.Spec PyProof.Rows L2
def cBad:Ex:=fun _ _=>.bad
section
variable {X:Cx} {T:Tab} {Ew:VK} {a b e:Expr} {es:List Expr} {fa fb:Ex} {fs:Ax} {pos:Pos}
theorem re_bad:RE X T Ew e cBad:=by with_unfolding_all exact (
  fun pins s σ H Q I ⟨F,m,ρ,h,R,p⟩=>p.elim)
theorem re_dict0:RE X T Ew (.Dict [] [] pos) (cK (.dct [])):=by with_unfolding_all exact (
  PE.imp (pe_fz pe_dnewK) fun σ H Q ⟨F,m,ρ,h,R,p⟩ l hl=>.inr ⟨l,[],upd_same,fun o=>by
   rw [upd_upd]
   obtain ⟨s,R'⟩:=Step.lay (o:=.frz o (.dK [])) R.toRelH hl
   exact p _ m _ _ s R' (.dct (kvs:= []) upd_same rfl .nil)⟩)
def pAddM(p q:PV)(h:List PO):Res PV:=match lsM h p,lsM h q with
 | some a,some b=>if a.length+b.length≤sizeLine then .ok (.ref h.length) (h++ [.lst (a++b)]) else .bad
 | _,_=>.bad
theorem prim_addM{K:PySem.W.Frag}{T:Tab}:Prim2 K T (rAddA K) pAddM:=by
 intro F m h H x y p q Q Ew R rp rq w
 unfold pAddM at w
 split at w
 ·rename_i a b e1 e2
  split at w
  ·rename_i hz
   obtain ⟨pa,va,rfl,ea,ra⟩:=lsM_rep R rp e1
   obtain ⟨pb,vb,rfl,eb,rb⟩:=lsM_rep R rq e2
   exact .inr (.inr (.inr (.inr ⟨pa,pb,va,vb,rfl,rfl,ea,eb,by rw [← ra.length,← rb.length];exact hz,post_new w R (ra.append rb)⟩)))
  ·exact w.elim
 ·exact w.elim
theorem re_addM(ha:RE X T Ew a fa)(hb:RE X T Ew b fb):RE X T Ew (.BinOp a .Add b pos) (c2 pAddM fa fb):=by with_unfolding_all exact (
  re_op op_addA prim_addM ha hb)
end
def blsOf:List PV→Option (List Bool)
 | []=>some []
 | .bl b::r=>(blsOf r).map (b:: ·)
 | _=>none
theorem blsOf_map:∀ {ps:List PV} {bs:List Bool},blsOf ps=some bs→ps=bs.map PV.bl
 | [],_,e=>by cases e;rfl
 | p::r,bs,e=>by
  unfold blsOf at e
  split at e
  ·rename_i h;cases h
  ·rename_i b r' h
   cases h
   obtain ⟨cs,hc,rfl⟩:=Option.map_eq_some_iff.mp e
   rw [blsOf_map hc];rfl
  ·cases e
theorem reps_bls{K:PySem.W.Frag}{T:Tab}{F:Hp}{m:List Addr}:∀ {bs:List Bool} {vs:List V},RepVs K T F m (bs.map PV.bl) vs→vs=bs.map V.bl
 | [],_,.nil=>rfl
 | b::r,_,.cons q t=>by cases q;rw [reps_bls t];rfl
theorem vals_bls:∀ {bs:List Bool} {us:List Value},Vals (bs.map V.bl) us→us=bs.map Value.bool
 | [],_,.nil=>rfl
 | b::r,_,.cons q t=>by cases (show _=Value.bool b from q);rw [vals_bls t];rfl
def isB(k:Bool):Value→Bool
 | .bool b=>b==k
 | _=>false
theorem isB_eq{A:Around}{s:Shared}(k:Bool){bs:List Bool}:∀ v,v∈(bs.map Value.bool).toArray→SeqAt.EqAt A s v (.bool k) (isB k v):=fun v hv=>by
 obtain ⟨b,_,rfl⟩:=List.mem_map.mp (show v∈bs.map Value.bool from List.mem_toArray.mp hv)
 exact SeqAt.EqAt.bool_bool b k
section
variable {X:Cx}
def rCountB(K:PySem.W.Frag):V→List V→Hp→VK→Prop:=fun x xs H Q=>∃ (a:Addr) (bs:List Bool) (k:Bool),x= .ref a∧SqL K H a (bs.map V.bl)∧xs= [.bl k]∧Q (.int (bs.count k:Nat)) H
def rIndexB(K:PySem.W.Frag):V→List V→Hp→VK→Prop:=fun x xs H Q=>∃ (a:Addr) (bs:List Bool) (k:Bool),x= .ref a∧SqL K H a (bs.map V.bl)∧xs= [.bl k]∧bs.length≤sizeLine∧bs.idxOf k<bs.length∧Q (.int (bs.idxOf k:Nat)) H
theorem mt_countB:MtR X "list.count" (rCountB X.K):=by
 intro pins s σ H x xs v us Q I rx rv h
 obtain ⟨a,bs,k,rfl,sq,rfl,q⟩:=h
 cases rx
 obtain ⟨u,rfl,ru⟩:=rv.one
 cases (show u=Value.bool k from ru)
 obtain ⟨its,r,pl,_⟩:=I.list sq
 have e:=vals_bls r
 subst e
 obtain ⟨⟨cls,dd,data,sl⟩,ho,hc,n,hd⟩:=pl.isList
 simp only at hc hd
 subst hc hd
 refine call_meets PySem.F.slot_list_count ⟨_,ho,rfl⟩ PySem.F.entry_list_count (PySem.F.args_list_count_2 _ _) (SeqAt.list_countAt a _ n dd sl (.bool k) (isB k)) ⟨ho,fun y hy=>isB_eq k y hy,?_⟩
 have e2:List.countP (isB k) (bs.map Value.bool)=bs.count k:=by
  rw [List.countP_map];rfl
 rw [show (bs.map Value.bool).toArray.toList=bs.map Value.bool from rfl,e2]
 exact ⟨.int (bs.count k:Nat),H,I.tok _,⟨_,rfl⟩,q⟩
theorem mt_indexB:MtR X "list.index" (rIndexB X.K):=by
 intro pins s σ H x xs v us Q I rx rv h
 obtain ⟨a,bs,k,rfl,sq,rfl,hz,hi,q⟩:=h
 cases rx
 obtain ⟨u,rfl,ru⟩:=rv.one
 cases (show u=Value.bool k from ru)
 obtain ⟨its,r,pl,_⟩:=I.list sq
 have e:=vals_bls r
 subst e
 obtain ⟨⟨cls,dd,data,sl⟩,ho,hc,n,hd⟩:=pl.isList
 simp only at hc hd
 subst hc hd
 have hj:bs.idxOf k<(bs.map Value.bool).toArray.size:=by simpa using hi
 have hsm:((bs.idxOf k:Nat):Int)<2 ^ 63 - 1:=by rw [sizeLine_eq] at hz;omega
 have hit:isB k (bs.map Value.bool).toArray[bs.idxOf k]=true:=by
  simp [isB]
 have hno:∀ m (hm:m<(bs.map Value.bool).toArray.size),m<bs.idxOf k→isB k (bs.map Value.bool).toArray[m]=false:=by
  intro m hm hlt
  have:=List.not_of_lt_findIdx (p:=(· ==k)) (xs:=bs) (i:=m) hlt
  simpa [isB] using this
 refine call_meets PySem.F.slot_list_index ⟨_,ho,rfl⟩ PySem.F.entry_list_index (PySem.F.args_list_index_2 _ _) (SeqAt.list_indexAt a _ n dd sl (.bool k) (isB k) (bs.idxOf k) hj hsm hit hno) ⟨ho,fun y hy=>isB_eq k y hy,?_⟩
 exact ⟨.int (bs.idxOf k:Nat),H,I.tok _,⟨_,rfl⟩,q⟩
end
def pCountB(p:PV)(ps:List PV)(h:List PO):Res PV:=match ps with
 | [.bl k]=>match (lsR h p).bind blsOf with
  | some bs=>.ok (.int (bs.count k:Nat)) h
  | none=>.bad
 | _=>.bad
def pIndexB(p:PV)(ps:List PV)(h:List PO):Res PV:=match ps with
 | [.bl k]=>match (lsR h p).bind blsOf with
  | some bs=>if bs.length≤sizeLine∧bs.idxOf k<bs.length then .ok (.int (bs.idxOf k:Nat)) h else .bad
  | none=>.bad
 | _=>.bad
theorem prim_countB{K:PySem.W.Frag}{T:Tab}:PrimM K T (rCountB K) pCountB:=by
 intro F m h H x xs p ps Q Ew R rp rs w
 unfold pCountB at w
 split at w
 ·rename_i k
  obtain ⟨y,rfl,ry⟩:=rs.one
  cases ry
  split at w
  ·rename_i bs e
   obtain ⟨zs,e1,e2⟩:=Option.bind_eq_some_iff.mp e
   obtain ⟨a,vs,rfl,sq,rr⟩:=lsR_rep R rp e1
   rw [blsOf_map e2] at rr
   have:=reps_bls rr
   subst this
   exact ⟨a,bs,k,rfl,sq,rfl,post_ok w R (.int _)⟩
  ·exact w.elim
 ·exact w.elim
theorem prim_indexB{K:PySem.W.Frag}{T:Tab}:PrimM K T (rIndexB K) pIndexB:=by
 intro F m h H x xs p ps Q Ew R rp rs w
 unfold pIndexB at w
 split at w
 ·rename_i k
  obtain ⟨y,rfl,ry⟩:=rs.one
  cases ry
  split at w
  ·rename_i bs e
   split at w
   ·rename_i hz
    obtain ⟨zs,e1,e2⟩:=Option.bind_eq_some_iff.mp e
    obtain ⟨a,vs,rfl,sq,rr⟩:=lsR_rep R rp e1
    rw [blsOf_map e2] at rr
    have:=reps_bls rr
    subst this
    exact ⟨a,bs,k,rfl,sq,rfl,hz.1,hz.2,post_ok w R (.int _)⟩
   ·exact w.elim
  ·exact w.elim
 ·exact w.elim
structure ClsGet(K:PySem.W.Frag):Prop where
 get:PySem.W.specialIn K (.builtin "object.__class__") "__get__"=some (some (.builtin "getset_descriptor.__get__"))
 tk:PySem.W.takesIn K (.builtin "object.__class__")=some true
structure KCls(K:PySem.W.Frag)(C:Addr):Prop where
 at_:PySem.W.findIn K (.ref C) "__class__"=some (some (.builtin "object.__class__"))
 mo:PySem.W.mroIn K C (.type "object")=some true
 is_:(PySem.W.clsIn K C).isSome=true
theorem kitx_exc{K:PySem.W.Frag}{a C:Addr}(g:ClsGet K)(c:KCls K C)(x:XCls K C):PySem.W.KitX K (.ref a) (.ref C) (fun h=>∃ o vs,h.get? a=some o∧o.cls= .ref C∧o.data= .fields vs):=by
 obtain ⟨cd,hcd⟩:=Option.isSome_iff_exists.mp c.is_
 obtain ⟨oc,od,osl,hlk⟩:∃ oc od osl,K.lookup C=some ⟨oc,od,.cls cd,osl⟩:=by
  unfold PySem.W.clsIn at hcd
  split at hcd
  ·rename_i c1 d1 cd1 s1 z;cases hcd;exact ⟨_,_,_,z⟩
  ·cases hcd
 have ty:∀ (M:Model) (h:Heap),(∃ o vs,h.get? a=some o∧o.cls= .ref C∧o.data= .fields vs)→PySem.W.Looks M h (typeOf (.ref a)) (.ref C):=fun M h ⟨o,vs,h1,h2,_⟩=>h2▸(PySem.W.Looks.ld h1).andThen .now
 refine ⟨fun M h _ p=>ty M h p,fun M h kin _=>?_,fun h tp dd its n sl kin htp=>?_,fun {prog w A E Q s} kin p q=>?_⟩
 ·intro A' Q' E' s' k z
  unfold isType loadHead
  exact wpAny_bind (wpAny_loadPart (k _ _ (kin _ _ hlk)) (wpAny_pure z))
 ·refine Bool.eq_false_iff.mpr fun z=>?_
  cases beq_iff_eq.mp z
  have:=(kin _ _ hlk).symm.trans htp
  cases this
 ·exact x_class x kin (ty _ _ p) c.at_ g.get g.tk c.mo q
inductive ClO(K:PySem.W.Frag)(H:Hp):V→Addr→Prop where
 | ins {a C dx:Addr} {fs:List (Str×V)} (e:H a=some (.ins C dx fs)) (cl:Cls K C):ClO K H (.ref a) C
 | exc {a C:Addr} (e:H a=some (ExcO a (.ref C))) (x:XCls K C):ClO K H (.ref a) C
def clV:V→Option Value
 | .ref D=>some (.ref D)
 | .ty n=>some (.type n)
 | _=>none
theorem call_isC{X:Cx}(g:ClsGet X.K):CallR X (.builtin "isinstance") (fun xs H Q=>∃ x c t C b,xs= [x,c]∧clV c=some t∧ClO X.K H x C∧KCls X.K C∧PySem.W.kitOne X.K (.ref C) t=some b∧Q (.bl b) H):=by
 intro pins s σ H xs us Q I r h
 obtain ⟨x,c,t,C,b,rfl,ec,co,kc,e,q⟩:=h
 obtain ⟨u,w',rfl,ru,rw'⟩:=vals2 r
 have ew:w'=t:=by
  unfold clV at ec
  split at ec
  ·cases ec;exact rw'
  ·cases ec;exact rw'
  ·cases ec
 subst ew
 have fin:∀ tk,EP X pins σ Q (.bool b) { s with toks:=tk }:=fun tk=>⟨.bl b,H,I.tok tk,rfl,q⟩
 cases co with
 | ins ea cl=>
  cases ru
  obtain ⟨mA,O,_⟩:=ins_get I.hok ea
  obtain ⟨od,J,_⟩:=O.look
  exact PySem.W.kia_one (PySem.W.kitx_own (cl.get _) cl.hd kc.at_ g.get g.tk kc.mo) I.kIn J e (fun z=>nomatch z) fin
 | @exc a _ ea xc=>
  cases ru
  obtain ⟨p,_,_⟩:=(show ObjOk X.prog X.w H s.heap a (ExcO a (.ref C)) from I.hok a _ ea)
  exact PySem.W.kia_one (kitx_exc g kc xc) I.kIn p e (fun z=>nomatch z) fin
structure IsTab(K:PySem.W.Frag)(T:Tab)(kd:Nat→Option Bool)(sC:Nat→Nat→Option Bool)(sT:Nat→String→Option Bool):Prop where
 g:ClsGet K
 ins:∀ C a,kd C=some false→T C=some a→Cls K a∧KCls K a
 exc:∀ C a,kd C=some true→T C=some a→XCls K a∧KCls K a
 cls:∀ C D a b r,sC C D=some r→T C=some a→T D=some b→PySem.W.kitOne K (.ref a) (.ref b)=some r
 ty:∀ C t a r,sT C t=some r→T C=some a→PySem.W.kitOne K (.ref a) (.type t)=some r
def lookT:List (Nat×Nat×Bool)→Nat→Nat→Option Bool
 | [],_,_=>none
 | (a,b,r)::l,C,D=>if a=C∧b=D then some r else lookT l C D
def AllT(P:Nat→Nat→Bool→Prop):List (Nat×Nat×Bool)→Prop
 | []=>True
 | (a,b,r)::l=>P a b r∧AllT P l
theorem lookT_all{P:Nat→Nat→Bool→Prop}:∀ {l:List (Nat×Nat×Bool)} {C D:Nat} {r:Bool},AllT P l→lookT l C D=some r→P C D r
 | [],_,_,_,_,e=>by cases e
 | (a,b,q)::l,C,D,r,h,e=>by
  unfold lookT at e
  split at e
  ·rename_i z
   obtain ⟨rfl,rfl⟩:=z
   cases e
   exact h.1
  ·exact lookT_all h.2 e
def kindP:PV→Option (Nat×Bool)
 | .ins C _=>some (C,false)
 | .exc C=>some (C,true)
 | _=>none
def subP(sC:Nat→Nat→Option Bool)(sT:Nat→String→Option Bool)(C:Nat):PV→Option Bool
 | .cls D=>sC C D
 | .ty t=>sT C t
 | _=>none
def pIsC(kd:Nat→Option Bool)(sC:Nat→Nat→Option Bool)(sT:Nat→String→Option Bool)(ps:List PV)(h:List PO):Res PV:=match ps with
 | [p,q]=>match kindP p with
  | some (C,b)=>if kd C=some b then (match subP sC sT C q with
   | some r=>.ok (.bl r) h
   | none=>.bad) else .bad
  | none=>.bad
 | _=>.bad
theorem prim_isC{K:PySem.W.Frag}{T:Tab}{kd:Nat→Option Bool}{sC:Nat→Nat→Option Bool}{sT:Nat→String→Option Bool}(tb:IsTab K T kd sC sT):
  PrimN K T (fun xs H Q=>∃ x c t C b,xs= [x,c]∧clV c=some t∧ClO K H x C∧KCls K C∧PySem.W.kitOne K (.ref C) t=some b∧Q (.bl b) H) (pIsC kd sC sT):=by
 intro F m h H xs ps Q Ew R rs w
 unfold pIsC at w
 split at w
 ·rename_i p q
  obtain ⟨x,y,rfl,rx,ry⟩:=rs.two
  split at w
  ·rename_i C b ek
   split at w
   ·rename_i hk
    split at w
    ·rename_i r er
     have hq:Q (.bl r) H:=post_ok w R (.bl _)
     have cy:∀ {Ca},T C=some Ca→∃ t,clV y=some t∧PySem.W.kitOne K (.ref Ca) t=some r:=fun hC=>by
      unfold subP at er
      split at er
      ·cases ry with | cls hD=>exact ⟨_,rfl,tb.cls _ _ _ _ _ er hC hD⟩
      ·cases ry;exact ⟨_,rfl,tb.ty _ _ _ _ er hC⟩
      ·cases er
     unfold kindP at ek
     split at ek
     ·cases ek
      cases rx with
      | @ins _ _ a Ca dx fvs c e d kk rr=>
       obtain ⟨cl,kc⟩:=tb.ins _ _ hk c
       obtain ⟨t,e1,e2⟩:=cy c
       exact ⟨_,_,t,Ca,r,rfl,e1,.ins (R.same _ _ e) cl,kc,e2,hq⟩
     ·cases ek
      cases rx with
      | @exc _ a Ca c e=>
       obtain ⟨cl,kc⟩:=tb.exc _ _ hk c
       obtain ⟨t,e1,e2⟩:=cy c
       exact ⟨_,_,t,Ca,r,rfl,e1,.exc (R.same _ _ e) cl,kc,e2,hq⟩
     ·cases ek
    ·exact w.elim
   ·exact w.elim
  ·exact w.elim
 ·exact w.elim
section
variable {X:Cx} {T:Tab} {Ew:VK} {e:Expr} {es:List Expr} {f:Ax} {p:Pos}
theorem re_isC{kd:Nat→Option Bool}{sC:Nat→Nat→Option Bool}{sT:Nat→String→Option Bool}{p0:Pos}(tb:IsTab X.K T kd sC sT)(hg:Gl X "isinstance")(hm:X.mg "isinstance"=none)(ha:RA X T Ew (e::es) f)
  (he:starEach (e::es) X.env=(false,eval e X.env)::starEach es X.env:=by rfl) (hpl:(backTo p (starEach es X.env)).any (·.1)=false:=by rfl):RE X T Ew (.Call (.Name "isinstance" p0) (e::es) [] p) (cN (pIsC kd sC sT) f):=by with_unfolding_all exact (
  re_callB (call_isC tb.g) (prim_isC tb) hg hm (by decide+kernel) ha (by decide) (by decide) he hpl)
end
section
variable {X:Cx}
end
def onlyX(ok:Nat→Bool):OutX→OutX
 | .exc C=>if ok C=true then .exc C else .bad
 | r=>r
theorem fx_only{T:Tab}{np n:Nat}{g:Sx}{ok:Nat→Bool}(h:∀ C,ok C=true→∃ a,T C=some a):FnX T np (fun ps=>onlyX ok (runX g np n ps)):=by
 refine ⟨fun qs z=>?_,fun qs C z=>?_⟩
 ·unfold runX at z
  by_cases hl:qs.length=np
  ·exact hl
  ·simp only [if_neg hl] at z
   exact absurd rfl z
 ·cases y:runX g np n qs with
  | ok v=>rw [y] at z;cases z
  | bad=>rw [y] at z;cases z
  | exc D=>
   rw [y] at z
   by_cases hD:ok D=true
   ·rw [show onlyX ok (.exc D)= .exc D from if_pos hD] at z
    cases z;exact h _ hD
   ·rw [show onlyX ok (.exc D)= .bad from if_neg hD] at z
    cases z
theorem fn_only{P:Program}{w:World}{K:PySem.W.Frag}{mg:Str→Option Value}{base:Heap}{CX:CXT}{k:Nat}{f:Addr}{fd:FuncData}{ps:List Str}{T:Tab}{np:Nat}{fn:List PV→OutX}{ok:Nat→Bool}(G:FnOk P w K mg base CX k f fd ps (spX K T np fn)):
  FnOk P w K mg base CX k f fd ps (spX K T np fun qs=>onlyX ok (fn qs)):=by
 refine G.imp fun vs H Q E h=>?_
 obtain ⟨F,qs,hl,sm,r,q⟩:=h
 refine ⟨F,qs,hl,sm,r,?_⟩
 dsimp only at q
 cases y:fn qs with
 | ok v=>rw [y] at q;exact q
 | bad=>rw [y] at q;exact q.elim
 | exc C=>
  rw [y] at q
  by_cases hC:ok C=true
  ·rw [show onlyX ok (.exc C)= .exc C from if_pos hC] at q
   exact q
  ·rw [show onlyX ok (.exc C)= .bad from if_neg hC] at q
   exact q.elim
section
variable {X:Cx} {T:Tab} {Ew:VK} {C fI:Addr} {fd:FuncData} {ps:List Str} {f x:Str} {e:Expr} {pos p apos:Pos} {fs:Ax} {k:Nat}
end
end L3
namespace L3
open PySem PySem.Spec PyProof.Rows L2
section
variable {K:PySem.W.Frag} {T:Tab} {F H:Hp} {m:List Addr} {h:List PO}
theorem RelH.lt{i:Nat}{a:Addr}(R:RelH K T F m h H)(em:m[i]? =some a):i<h.length:=by
 rw [R.len]
 rcases Nat.lt_or_ge i m.length with q | q
 ·exact q
 ·rw [List.getElem?_eq_none q] at em;cases em
theorem RelH.inj{i j:Nat}{a:Addr}(R:RelH K T F m h H)(e1:m[i]? =some a)(e2:m[j]? =some a):i=j:=by
 have h1:i<m.length:=by rw [← R.len];exact R.lt e1
 have h2:j<m.length:=by rw [← R.len];exact R.lt e2
 rw [List.getElem?_eq_getElem h1,Option.some.injEq] at e1
 rw [List.getElem?_eq_getElem h2,Option.some.injEq] at e2
 exact (List.getElem_inj R.nd).mp (e1.trans e2.symm)
theorem frz_objD{i:Nat}{a:Addr}{u:HO}{p:PV}(R:RelH K T F m h H)(em:m[i]? =some a)(hF:F a=none)(hH:∃ o,H a=some o)(hp:p.pure=true)(r:RepV K T (upd F a u) m p (.ref a)):
  Step F m H (upd F a u) m (upd H a u)∧RelH K T (upd F a u) m (h.set i (.froz p)) (upd H a u):=by
 have hi:=R.lt em
 have am:a∈m:=List.mem_of_getElem? em
 have sF:Same F (upd F a u):=same_new hF u
 refine ⟨⟨sF,⟨[],by simp⟩,fun b o e nb=>?_,fun b o e=>?_,fun j c hj e=>(by rw [List.getElem?_eq_none hj] at e;cases e),fun c o e=>?_⟩,?_⟩
 ·have:b≠a:=fun z=>nb (by rw [z];exact am)
  rw [upd_ne this];exact e
 ·by_cases hb:b=a
  ·subst hb;exact ⟨u,upd_same⟩
  ·exact ⟨o,by rw [upd_ne hb];exact e⟩
 ·by_cases hc:c=a
  ·subst hc;exact .inr (.inr am)
  ·rw [upd_ne hc] at e;exact .inl e
 ·refine ⟨fun b o e=>?_,by rw [List.length_set];exact R.len,fun j ob c e1 e2=>?_,R.nd⟩
  ·by_cases hb:b=a
   ·subst hb;rw [upd_same] at e ⊢;exact e
   ·rw [upd_ne hb] at e ⊢;exact R.same b o e
  ·by_cases hj:i=j
   ·subst hj
    rw [List.getElem?_set_self hi] at e1
    cases e1
    rw [em] at e2;cases e2
    exact ⟨r,hp,u,upd_same⟩
   ·rw [List.getElem?_set_ne hj] at e1
    have hc:c≠a:=fun z=>by subst z;exact hj (R.inj em e2)
    have q:=R.obj j ob c e1 e2
    cases ob with
    | lst xs=>obtain ⟨f,vs,z,rr⟩:=q;exact ⟨by rw [upd_ne hc];exact f,vs,by rw [upd_ne hc];exact z,rr.mono sF fun _ _ h=>h⟩
    | dct xs=>obtain ⟨f,vs,z,k,rr⟩:=q;exact ⟨by rw [upd_ne hc];exact f,vs,by rw [upd_ne hc];exact z,k,rr.mono sF fun _ _ h=>h⟩
    | froz q'=>obtain ⟨r1,r2,o,r3⟩:=q;exact ⟨r1.mono sF fun _ _ h=>h,r2,o,sF _ _ r3⟩
end
def liveD(h:List PO):PV→Option (Nat×List (PK×PV))
 | .ref i=>match h[i]? with
  | some (.dct kvs)=>some (i,kvs)
  | _=>none
 | _=>none
def fzP(h:List PO)(p:PV):Option (PV×List PO):=match liveD h p with
 | some (i,kvs)=>if pureks kvs=true then some (.dct kvs,h.set i (.froz (.dct kvs))) else none
 | none=>frzV h p
def fzR(p:PV)(h:List PO):Res PV:=match fzP h p with
 | some (q,h2)=>.ok q h2
 | none=>.bad
def cFz(f:Ex):Ex:=fun ρ h=>(f ρ h).bind fzR
section
variable {K:PySem.W.Frag} {T:Tab} {F H:Hp} {m:List Addr} {h:List PO} {p:PV} {x:V}
theorem liveD_rep{i:Nat}{kps:List (PK×PV)}(R:RelH K T F m h H)(r:RepV K T F m p x)(e:liveD h p=some (i,kps)):∃ a kvs,x= .ref a∧m[i]? =some a∧F a=none∧H a=some (.dK kvs)∧RepK K T F m kps kvs:=by
 unfold liveD at e
 split at e
 ·rename_i j
  split at e
  ·rename_i kvs q
   cases e
   cases r with
   | @ref _ a em=>
    obtain ⟨f,vs,e1,k,rr⟩:=R.obj _ _ a q em
    exact ⟨a,vs,rfl,em,f,e1,k,rr⟩
  ·cases e
 ·cases e
end
section
variable {X:Cx} {T:Tab} {Ew:VK} {a b e o k v:Expr} {fa fb fo fk fv:Ex} {pos px:Pos}
theorem re_fz(ha:RE X T Ew a fa):RE X T Ew a (cFz fa):=by with_unfolding_all
 refine PE.imp (pe_fz ha) fun σ H Q ⟨F,m,ρ,h,R,p⟩=>⟨F,m,ρ,h,R,(Post.bind p).mono fun x H1 ⟨F1,m1,h1,p1,s1,R1,r1,w1⟩=>?_⟩
 unfold fzR fzP at w1
 cases z:liveD h1 p1 with
 | none=>
  rw [z] at w1
  dsimp only at w1
  cases y:frzV h1 p1 with
  | none=>rw [y] at w1;exact w1.elim
  | some ab=>
   obtain ⟨q,h2⟩:=ab
   rw [y] at w1
   obtain ⟨F2,s2,R2,r2,_⟩:=frzV_rep R1 r1 y
   exact .inl (w1 F2 m1 H1 x s2 R2 r2)
 | some ab=>
  obtain ⟨i,kps⟩:=ab
  rw [z] at w1
  dsimp only at w1
  by_cases hp:pureks kps=true
  ·rw [if_pos hp] at w1
   obtain ⟨a,kvs,rfl,em,hF,hH,kk,rr⟩:=liveD_rep R1 r1 z
   refine .inr ⟨a,kvs,hH,fun ob=>?_⟩
   have rl:RepV X.K T (L2.upd F1 a (.frz ob (.dK kvs))) m1 (.dct kps) (.ref a):=.dct upd_same kk (rr.mono (same_new hF _) fun _ _ h=>h)
   have pp:(PV.dct kps).pure=true:=by simpa [PV.pure] using hp
   obtain ⟨s2,R2⟩:=frz_objD R1 em hF ⟨_,hH⟩ pp rl
   exact w1 _ m1 _ _ s2 R2 rl
  ·rw [if_neg hp] at w1;exact w1.elim
theorem post_newD{K:PySem.W.Frag}{F H:Hp}{m:List Addr}{h:List PO}{Q:VK}{kps:List (PK×PV)}{kvs:List (Key×V)}(w:Post K T (RepV K T) F m H Q Ew (.ok (.ref h.length) (h++ [.dct kps])))(R:RelH K T F m h H)(r:RepK K T F m kps kvs):∀ p,H p=none→Q (.ref p) (upd H p (.dK kvs)):=fun p hp=>by
 have hF:F p=none:=R.same.free hp
 have hm:p∉m:=R.fresh hp
 have st:Step F m H F (m++ [p]) (upd H p (.dK kvs)):=by
  refine ⟨Same.refl _,⟨[p],rfl⟩,fun b o e _=>by rw [upd_ne (ne_of_none e hp)];exact e,fun b o e=>⟨o,by rw [upd_ne (ne_of_none e hp)];exact e⟩,fun i a hi e=>?_,fun a o e=>.inl e⟩
  rw [List.getElem?_append_right hi] at e
  cases q:i - m.length with
  | zero=>rw [q] at e;simp at e;rw [← e];exact hp
  | succ n=>rw [q] at e;simp at e
 refine w F (m++ [p]) _ (.ref p) st ⟨fun b o e=>?_,by simp [R.len],fun i ob c e1 e2=>?_,?_⟩ (.ref (by rw [R.len,List.getElem?_append_right (Nat.le_refl _)];simp))
 ·have:=R.same b o e
  rw [upd_ne (ne_of_none this hp)];exact this
 ·by_cases hi:i<h.length
  ·rw [List.getElem?_append_left hi] at e1
   have hi':i<m.length:=by rw [← R.len];exact hi
   rw [List.getElem?_append_left hi'] at e2
   have hc:c≠p:=fun z=>hm (by rw [← z];exact List.mem_of_getElem? e2)
   have q:=R.obj i ob c e1 e2
   cases ob with
   | lst xs=>obtain ⟨f,vs,z,rr⟩:=q;exact ⟨f,vs,by rw [upd_ne hc];exact z,st.reps rr⟩
   | dct xs=>obtain ⟨f,vs,z,k,rr⟩:=q;exact ⟨f,vs,by rw [upd_ne hc];exact z,k,st.reps rr⟩
   | froz q'=>obtain ⟨r1,r2,o,r3⟩:=q;exact ⟨st.rep r1,r2,o,r3⟩
  ·have hge:h.length≤i:=Nat.le_of_not_lt hi
   rw [List.getElem?_append_right hge] at e1
   have hge':m.length≤i:=by rw [← R.len];exact hge
   rw [List.getElem?_append_right hge'] at e2
   rw [R.len] at e1
   cases q:i - m.length with
   | zero=>
    rw [q] at e1 e2
    simp at e1 e2
    subst e1 e2
    exact ⟨hF,kvs,upd_same,r.1,st.reps r.2⟩
   | succ n=>rw [q] at e1;simp at e1
 ·rw [List.nodup_append]
  exact ⟨R.nd,by simp,fun x hx y hy=>by simp at hy;subst hy;intro z;subst z;exact hm hx⟩
def cNewD:Ex:=fun _ h=>.ok (.ref h.length) (h++ [.dct []])
theorem re_newD:RE X T Ew (.Dict [] [] pos) cNewD:=by with_unfolding_all exact (
  PE.imp pe_dnewK fun σ H Q ⟨F,m,ρ,h,R,p⟩=>post_newD p R.toRelH .nil)
def pDictM(ps:List PV)(h:List PO):Res PV:=match ps with
 | [p]=>match dcR h p with
  | some kps=>.ok (.ref h.length) (h++ [.dct kps])
  | none=>.bad
 | _=>.bad
theorem call_dictC{X:Cx}:CallR X (.type "dict") (fun xs H Q=>∃ a kvs,xs= [.ref a]∧Rd H a (.dK kvs)∧∀ p,H p=none→Q (.ref p) (upd H p (.dK kvs))):=by
 intro pins s σ H xs us Q I r h
 obtain ⟨a,kvs,rfl,rd,q⟩:=h
 obtain ⟨u,rfl,ru⟩:=r.one
 cases (show u=Value.ref a from ru)
 exact d_copyOf I rd fun p s' np I'=>⟨.ref p,_,I',rfl,q p np⟩
theorem prim_dictM{K:PySem.W.Frag}{T:Tab}:PrimN K T (fun xs H Q=>∃ a kvs,xs= [.ref a]∧Rd H a (.dK kvs)∧∀ p,H p=none→Q (.ref p) (upd H p (.dK kvs))) pDictM:=by
 intro F m h H xs ps Q Ew R rs w
 unfold pDictM at w
 split at w
 ·obtain ⟨x,rfl,rx⟩:=rs.one
  split at w
  ·rename_i kps e
   obtain ⟨a,kvs,rfl,rd,kk,rr⟩:=dcR_rep R rx e
   exact ⟨a,kvs,rfl,rd,post_newD w R ⟨kk,rr⟩⟩
  ·exact w.elim
 ·exact w.elim
theorem re_dictM{es:List Expr}{f:Ax}{p0:Pos}(hg:Gl X "dict")(hm:X.mg "dict"=none)(ha:RA X T Ew (e::es) f)
  (he:starEach (e::es) X.env=(false,eval e X.env)::starEach es X.env:=by rfl) (hpl:(backTo pos (starEach es X.env)).any (·.1)=false:=by rfl):RE X T Ew (.Call (.Name "dict" p0) (e::es) [] pos) (cN pDictM f):=by with_unfolding_all exact (
  re_callTy call_dictC prim_dictM hg hm (by decide+kernel) ha (by decide) (by decide) he hpl)
def setDR(v o i:PV)(ρ:Ev)(h:List PO):SR:=match liveD h o,keyOf i with
 | some (n,kps),some k=>if kps.length<sizeLine then .nx ρ (h.set n (.dct (putP kps k v))) else .bad
 | _,_=>.bad
def sSetD(fo fi fv:Ex):Sx:=fun ρ h=>eThen (fv ρ h) fun v h1=>eThen (fo ρ h1) fun o h2=>eThen (fi ρ h2) fun i h3=>setDR v o i ρ h3
theorem rs_setD(hu:X.A.units+64<cLine)(ho:RE X T Ew o fo)(hk:RE X T Ew k fk)(hv:RE X T Ew v fv)(hs:swapsWith v (some (.Subscript o k px)) pos.line X.env=pure false:=by rfl):
  RS X T Ew (.Assign [.Subscript o k px] v pos) (sSetD fo fk fv):=by with_unfolding_all
 refine PS.imp (ps_dput (by omega) ho hk hv hs) fun D σ H ⟨F,m,ρ,h,R,p⟩=>⟨F,m,ρ,h,R,(post_e p).mono fun v H1 ⟨F1,m1,h1,pv,s1,R1,r1,w1⟩=>?_⟩
 refine ⟨F1,m1,ρ,h1,R.of s1 R1,(post_e w1).mono fun o H2 ⟨F2,m2,h2,po,s2,R2,r2,w2⟩=>?_⟩
 refine ⟨F2,m2,ρ,h2,(R.of s1 R1).of s2 R2,(post_e w2).mono fun i H3 ⟨F3,m3,h3,pi,s3,R3,r3,w3⟩=>?_⟩
 have RS3:=((R.of s1 R1).of s2 R2).of s3 R3
 unfold setDR at w3
 split at w3
 ·rename_i n kps kk el ek
  split at w3
  ·rename_i hz
   obtain ⟨a,kvs,rfl,em,hF,hH,rr⟩:=liveD_rep R3 (s3.rep r2) el
   have hkey:=keyOf_rep r3 ek
   subst hkey
   have rv:=s3.rep (s2.rep r1)
   have hl:kvs.length=kps.length:=by have:=congrArg List.length rr.1;simpa using this
   refine ⟨a,_,rfl,DPut.k hH (by rw [hl];exact hz),?_⟩
   have rp:=RepK.put (k:=kk) rr rv
   obtain ⟨st,R'⟩:=R3.upd (o':=.dct (putP kps kk pv)) (ho:=.dK (putK kvs (tk kk) v)) em hF ⟨_,hH⟩ ⟨hF,_,upd_same,rp.1,rp.2⟩
   exact w3 F3 m3 _ _ st ⟨R',st.env RS3.env⟩
  ·exact w3.elim
 ·exact w3.elim
def dropP(kps:List (PK×PV))(k:PK):List (PK×PV):=kps.filter fun kv=>decide (kv.1≠k)
theorem RepK.drop{K:PySem.W.Frag}{F:Hp}{m:List Addr}(k:PK):∀ {kps:List (PK×PV)} {kvs:List (Key×V)},RepK K T F m kps kvs→RepK K T F m (dropP kps k) (dropK kvs (tk k)):=by
 intro kps
 induction kps with
 | nil=>
  intro kvs h
  obtain ⟨h1,h2⟩:=h
  cases kvs with
  | nil=>exact .nil
  | cons _ _=>simp at h1
 | cons p r ih=>
  intro kvs h
  obtain ⟨h1,h2⟩:=h
  cases kvs with
  | nil=>simp at h1
  | cons q s=>
   simp only [List.map_cons,List.cons.injEq] at h1
   simp only [List.map_cons] at h2
   cases h2 with
   | cons r1 r2=>
    obtain ⟨i1,i2⟩:=ih ⟨h1.2,r2⟩
    by_cases hk:p.1=k
    ·have hq:q.1=tk k:=by rw [h1.1,hk]
     simp only [dropP,dropK,List.filter_cons,hk,hq,ne_eq,not_true_eq_false,decide_false,Bool.false_eq_true,if_false]
     exact ⟨i1,i2⟩
    ·have hq:q.1≠tk k:=fun z=>hk (tk_inj (by rw [← h1.1,z]))
     simp only [dropP,dropK,List.filter_cons,hk,hq,ne_eq,not_false_eq_true,decide_true,if_true,List.map_cons]
     exact ⟨List.cons_eq_cons.mpr ⟨h1.1,i1⟩,.cons r1 i2⟩
def popR(p q:PV)(h:List PO):Res PV:=match liveD h p,keyOf q with
 | some (n,kps),some k=>match valP kps k with
  | some v=>.ok v (h.set n (.dct (dropP kps k)))
  | none=>.bad
 | _,_=>.bad
def cPop(fo fk:Ex):Ex:=fun ρ h=>(fo ρ h).bind fun p h1=>if (liveD h1 p).isSome=true then (fk ρ h1).bind fun q h2=>popR p q h2 else .bad
theorem re_pop{apos:Pos}(ho:RE X T Ew o fo)(hk:RE X T Ew k fk)(mm:M1 X o "pop" apos k pos):RE X T Ew (.Call (.Attribute o "pop" apos) [k] [] pos) (cPop fo fk):=by with_unfolding_all
 refine PE.imp (pe_dpop1 ho hk mm) fun σ H Q ⟨F,m,ρ,h,R,p⟩=>⟨F,m,ρ,h,R,(Post.bind p).mono fun x H1 ⟨F1,m1,h1,p1,s1,R1,r1,w1⟩=>?_⟩
 by_cases hs:(liveD h1 p1).isSome=true
 ·rw [if_pos hs] at w1
  obtain ⟨⟨n0,k0⟩,e0⟩:=Option.isSome_iff_exists.mp hs
  obtain ⟨a,kvs0,rfl,em0,_,hH0,_⟩:=liveD_rep R1 r1 e0
  refine ⟨a,rfl,?_,F1,m1,ρ,h1,R.of s1 R1,(Post.bind w1).mono fun y H2 ⟨F2,m2,h2,p2,s2,R2,r2,w2⟩=>?_⟩
  ·exact .inl ⟨kvs0,.inl hH0⟩
  ·unfold popR at w2
   split at w2
   ·rename_i n kps kk el ek
    split at w2
    ·rename_i v ev
     obtain ⟨a',kvs,ea,em,hF,hH,rr⟩:=liveD_rep R2 (s2.rep r1) el
     cases ea
     have hkey:=keyOf_rep r2 ek
     subst hkey
     obtain ⟨u,hu,ru⟩:∃ u,valV kvs (tk kk)=some u∧RepV X.K T F2 m2 v u:=by
      rcases valP_rep rr.1 rr.2 kk with ⟨p3,u,z1,z2,z3⟩ | ⟨z1,_⟩
      ·rw [ev] at z1;cases z1;exact ⟨u,z2,z3⟩
      ·rw [ev] at z1;cases z1
     refine ⟨kvs,tk kk,u,hH,rfl,hu,?_⟩
     have rd:=RepK.drop kk rr
     obtain ⟨st,R'⟩:=R2.upd (o':=.dct (dropP kps kk)) (ho:=.dK (dropK kvs (tk kk))) em hF ⟨_,hH⟩ ⟨hF,_,upd_same,rd.1,rd.2⟩
     exact w2 F2 m2 _ _ st R' (st.rep ru)
    ·exact w2.elim
   ·exact w2.elim
 ·rw [if_neg hs] at w1;exact w1.elim
end
end L3
namespace L3
open PySem PySem.Spec PyProof.Rows L2
def keyPV:PK→PV
 | .inl i=>.int i
 | .inr l=>.str l
theorem keyPV_rep{K:PySem.W.Frag}{T:Tab}{F:Hp}{m:List Addr}(k:PK):RepV K T F m (keyPV k) (kV (tk k)):=by
 cases k with
 | inl i=>exact .int i
 | inr l=>exact .str l
theorem giv_dct{K:PySem.W.Frag}{T:Tab}{F H:Hp}{m:List Addr}{a:Addr}{o:Obj}{kps:List (PK×PV)}{kvs:List (Key×V)}(e:F a=some (.frz o (.dK kvs)))(k:kvs.map (·.1)=kps.map (fun p=>tk p.1)):GivP K T (Itd a o kvs) (kps.map fun p=>keyPV p.1) F m H:=by
 have hl:kvs.length=kps.length:=by have:=congrArg List.length k;simpa using this
 have at':∀ {F1:Hp} {m1:List Addr} {h1:List PO} {H1:Hp},Step F m H F1 m1 H1→RelH K T F1 m1 h1 H1→H1 a=some (.frz o (.dK kvs)):=fun s R=>R.same _ _ (s.fz _ _ e)
 refine ⟨fun i F1 m1 h1 H1 s R hi=>⟨at' s R,by rw [hl];simpa using hi⟩,fun i F1 m1 h1 H1 v H2 s R hi y=>?_,fun F1 m1 h1 H1 s R=>⟨at' s R,by rw [hl];simp⟩⟩
 obtain ⟨rfl,kk,vv,ek,rfl⟩:=y
 have hi':i<kps.length:=by simpa using hi
 have e1:kk=tk kps[i].1:=by
  have:=congrArg (fun l=>l[i]?) k
  simp only [List.getElem?_map,ek,List.getElem?_eq_getElem hi',Option.map_some,Option.some.injEq] at this
  exact this
 subst e1
 exact ⟨F1,m1,keyPV kps[i].1,.refl,R,by simp [hi'],keyPV_rep _⟩
def seqItD(p:PV)(h:List PO):Res (List PV):=match p with
 | .dct kps=>.ok (kps.map fun p=>keyPV p.1) h
 | p=>seqIt p h
def aSeqD(f:Ex):Ax:=fun ρ h=>(f ρ h).bind seqItD
section
variable {X:Cx} {T:Tab} {Ew:VK} {tg a b e o:Expr} {fa fb fo:Ex} {pos p0:Pos}
theorem ri_seqD(ha:RE X T Ew a fa):RI X T Ew tg a (aSeqD fa):=by with_unfolding_all
 intro pins s σ H R I ⟨F,m,ρ,h,RR,p⟩
 by_cases hd:∃ kps h1,fa ρ h= .ok (.dct kps) h1
 ·obtain ⟨kps,h1,q⟩:=hd
  refine pi_dict ha pins s σ H R I ⟨F,m,ρ,h,RR,?_⟩
  unfold aSeqD at p
  rw [q] at p ⊢
  intro F1 m1 H1 x s1 R1 r1
  have w1:=Post.step s1 (show Post X.K T _ F m H R Ew (seqItD (.dct kps) h1) from p)
  cases r1 with
  | dct ef kk rr=>exact ⟨_,_,_,rfl,R1.same _ _ ef,Post.here w1 R1 fun H=>giv_dct ef kk⟩
 ·have e:aSeqD fa ρ h=aSeq fa ρ h:=by
   unfold aSeqD aSeq
   cases q:fa ρ h with
   | bad=>rfl
   | exc _ _=>rfl
   | ok p1 h1=>
    show seqItD p1 h1=seqIt p1 h1
    unfold seqItD
    split
    ·exact absurd ⟨_,_,q⟩ hd
    ·rfl
  rw [e] at p
  exact ri_seq ha pins s σ H R I ⟨F,m,ρ,h,RR,p⟩
def valsR(p:PV)(h:List PO):Res PV:=match dcR h p with
 | some kps=>.ok (.lst (kps.map (·.2))) h
 | none=>.bad
def cVals(f:Ex):Ex:=fun ρ h=>(f ρ h).bind valsR
theorem re_vals{apos cpos:Pos}(hc:X.calm=true)(hg:Gl X "list")(hm:X.mg "list"=none)(ho:RE X T Ew o fo)
  (hbase:attributeBase o "values" X.env (eval o X.env)=eval o X.env:=by rfl) (hline:(apos.endLine==cpos.line)=true:=by rfl)
  (he:starEach [.Call (.Attribute o "values" apos) [] [] cpos] X.env= [(false,eval (.Call (.Attribute o "values" apos) [] [] cpos) X.env)]:=by rfl) (hpl:(backTo pos (starEach [] X.env)).any (·.1)=false:=by rfl):
  RE X T Ew (.Call (.Name "list" p0) [.Call (.Attribute o "values" apos) [] [] cpos] [] pos) (cVals fo):=by with_unfolding_all
 refine PE.imp (pe_callTy (call_listV hc) hg hm (by decide+kernel) (pa_cons (pe_vals ho hbase hline) pa_nil he) (by decide) (by decide) he hpl) fun σ H Q ⟨F,m,ρ,h,R,p⟩=>⟨F,m,ρ,h,R,(Post.bind p).mono fun x H1 ⟨F1,m1,h1,p1,s1,R1,r1,w1⟩=>?_⟩
 unfold valsR at w1
 cases q:dcR h1 p1 with
 | none=>rw [q] at w1;exact w1.elim
 | some kps=>
  rw [q] at w1
  obtain ⟨a,kvs,rfl,rd,kk,rr⟩:=dcR_rep R1 r1 q
  refine ⟨a,kvs,rfl,rd,fun v nv=>?_⟩
  have ne:a≠v:=by
   rcases rd with z | ⟨_,z⟩
   ·exact ne_of_none z nv
   ·exact ne_of_none z nv
  refine ⟨v,a,kvs,rfl,upd_same,?_,fun l nl=>?_⟩
  ·rcases rd with z | ⟨ob,z⟩
   ·exact .inl (by rw [upd_ne ne];exact z)
   ·exact .inr ⟨ob,by rw [upd_ne ne];exact z⟩
  ·obtain ⟨s2,R2⟩:=Step.lay (o:=ViewO v a) R1 nv
   obtain ⟨s3,R3⟩:=Step.lay (o:=.lst (kvs.map (·.2))) R2 nl
   exact w1 _ m1 _ _ (s2.trans s3) R3 (.lst upd_same ((s2.trans s3).reps rr))
end
end L3
namespace L3
open PySem PySem.Spec PyProof.Rows L2
def all2(f:PV→PV→Bool):List PV→List PV→Bool
 | [],[]=>true
 | x::xs,y::ys=>f x y&&all2 f xs ys
 | _,_=>false
def sameF:PV→PV→Bool
 | .non,.non=>true
 | .bl a,.bl b=>a==b
 | .int a,.int b=>a==b
 | .str a,.str b=>a==b
 | _,_=>false
def sameP:Nat→PV→PV→Bool
 | 0,p,q=>sameF p q
 | n+1,p,q=>match p,q with
  | .lst xs,.lst ys=>all2 (sameP n) xs ys
  | .dct xs,.dct ys=>decide (xs.map (·.1)=ys.map (·.1))&&all2 (sameP n) (xs.map (·.2)) (ys.map (·.2))
  | p,q=>sameF p q
theorem all2_len{f:PV→PV→Bool}:∀ {xs ys:List PV},all2 f xs ys=true→xs.length=ys.length
 | [],[],_=>rfl
 | _::_,_::_,h=>by simp only [all2,Bool.and_eq_true] at h;simp [all2_len h.2]
 | [],_::_,h=>by simp [all2] at h
 | _::_,[],h=>by simp [all2] at h
section
variable {K:PySem.W.Frag} {T:Tab} {F H:Hp} {m:List Addr}
theorem sameF_rep{n:Nat}{p q:PV}{x y:V}(e:sameF p q=true)(rp:RepV K T F m p x)(rq:RepV K T F m q y):SameV H n x y:=by
 cases p<;>cases q<;>simp only [sameF,Bool.false_eq_true,beq_iff_eq] at e
 ·cases rp;cases rq;exact .flat rfl
 ·cases rp;cases rq;subst e;exact .flat rfl
 ·cases rp;cases rq;subst e;exact .flat rfl
 ·cases rp;cases rq;subst e;exact .flat rfl
theorem all2_rep{f:PV→PV→Bool}{G:V→V→Prop}(hf:∀ {p q:PV} {x y:V},f p q=true→RepV K T F m p x→RepV K T F m q y→G x y):∀ {ps qs:List PV} {xs ys:List V},all2 f ps qs=true→RepVs K T F m ps xs→RepVs K T F m qs ys→∀ (i:Nat) (x y:V),xs[i]? =some x→ys[i]? =some y→G x y
 | [],[],_,_,_,.nil,.nil,i,x,y,e,_=>by simp at e
 | _::_,_::_,_,_,h,.cons r t,.cons r' t',i,x,y,e,e'=>by
  simp only [all2,Bool.and_eq_true] at h
  cases i with
  | zero=>simp at e e';subst e e';exact hf h.1 r r'
  | succ i=>exact all2_rep hf h.2 t t' i x y (by simpa using e) (by simpa using e')
 | [],_::_,_,_,h,_,_,_,_,_,_,_=>by simp [all2] at h
 | _::_,[],_,_,h,_,_,_,_,_,_,_=>by simp [all2] at h
theorem map_at2{xs:List (Key×V)}{i:Nat}{x:Key×V}(e:xs[i]? =some x):(xs.map (·.2))[i]? =some x.2:=by rw [List.getElem?_map,e];rfl
theorem sameP_rep(sm:Same F H):∀ {n:Nat} {p q:PV} {x y:V},sameP n p q=true→RepV K T F m p x→RepV K T F m q y→SameV H n x y
 | 0,p,q,x,y,e,rp,rq=>sameF_rep e rp rq
 | n+1,p,q,x,y,e,rp,rq=>by
  unfold sameP at e
  split at e
  ·rename_i xs ys
   cases rp with
   | lst ea ra=>
    cases rq with
    | lst eb rb=>exact .lst (.inl (sm _ _ ea)) (.inl (sm _ _ eb)) (by rw [← ra.length,← rb.length];exact all2_len e) (all2_rep (fun h r r'=>sameP_rep sm h r r') e ra rb)
  ·rename_i xs ys
   simp only [Bool.and_eq_true,decide_eq_true_eq] at e
   cases rp with
   | dct ea ka ra=>
    cases rq with
    | dct eb kb rb=>
     refine .dct (.inr ⟨_,sm _ _ ea⟩) (.inr ⟨_,sm _ _ eb⟩) ?_ fun i x y e1 e2=>all2_rep (fun h r r'=>sameP_rep sm h r r') e.2 ra rb i x.2 y.2 (map_at2 e1) (map_at2 e2)
     have z:=congrArg (List.map tk) e.1
     rw [List.map_map,List.map_map] at z
     rw [ka,kb]
     exact z
  ·exact sameF_rep e rp rq
end
def ltS(h:List PO)(p q:PV):Option Bool:=match lsM h p,lsM h q with
 | some xs,some ys=>if xs.length=ys.length then (if all2 (sameP 60) xs ys=true then some true else none) else some false
 | _,_=>none
def pEqS(p q:PV)(h:List PO):Res PV:=match ltS h p q with
 | some b=>.ok (.bl b) h
 | none=>pEq p q h
def pNeS(p q:PV)(h:List PO):Res PV:=match ltS h p q with
 | some b=>.ok (.bl (!b)) h
 | none=>pNe p q h
def rOr2(r1 r2:R2):R2:=fun x y H Q=>r1 x y H Q∨r2 x y H Q
section
variable {X:Cx} {T:Tab} {Ew:VK} {a b:Expr} {fa fb:Ex} {pos:Pos}
theorem ltS_rep{K:PySem.W.Frag}{F H:Hp}{m:List Addr}{h:List PO}{p q:PV}{x y:V}{k neg:Bool}{Q:VK}(R:RelH K T F m h H)(rp:RepV K T F m p x)(rq:RepV K T F m q y)(e:ltS h p q=some k)(w:Q (.bl (if neg then !k else k)) H):rSame K neg x y H Q:=by
 unfold ltS at e
 split at e
 ·rename_i xs ys z1 z2
  obtain ⟨c,vs,rfl,ec,rc⟩:=lsM_rep R rp z1
  obtain ⟨d,us,rfl,ed,rd⟩:=lsM_rep R rq z2
  have l1:=rc.length
  have l2:=rd.length
  refine ⟨c,d,vs,us,rfl,rfl,.inl ec,.inl ed,?_⟩
  by_cases hl:xs.length=ys.length
  ·rw [if_pos hl] at e
   by_cases ha:all2 (sameP 60) xs ys=true
   ·rw [if_pos ha] at e
    cases e
    refine .inr ⟨by omega,⟨60,Nat.le_refl _,all2_rep (fun h r r'=>sameP_rep R.same h r r') ha rc rd⟩,?_⟩
    cases neg<;>exact w
   ·rw [if_neg ha] at e;cases e
  ·rw [if_neg hl] at e
   cases e
   refine .inl ⟨by omega,?_⟩
   cases neg<;>exact w
 ·cases e
theorem prim_eqS{K:PySem.W.Frag}:Prim2 K T (rOr2 (rSame K false) (rEqD K false)) pEqS:=by
 intro F m h H x y p q Q Ew R rp rq w
 unfold pEqS at w
 split at w
 ·rename_i k e
  exact .inl (ltS_rep R rp rq e (post_ok w R (.bl _)))
 ·exact .inr (prim_eq F m h H x y p q Q Ew R rp rq w)
theorem prim_neS{K:PySem.W.Frag}:Prim2 K T (rOr2 (rSame K true) (rEqD K true)) pNeS:=by
 intro F m h H x y p q Q Ew R rp rq w
 unfold pNeS at w
 split at w
 ·rename_i k e
  exact .inl (ltS_rep R rp rq e (post_ok w R (.bl _)))
 ·exact .inr (prim_ne F m h H x y p q Q Ew R rp rq w)
end
end L3
namespace L3
open PySem PySem.Spec PyProof.Rows L2
def strKs:List (PK×PV)→Option (List (List Nat))
 | []=>some []
 | (.inr l,_)::r=>(strKs r).map (l:: ·)
 | _::_=>none
theorem strKs_map:∀ {kps:List (PK×PV)} {ks:List (List Nat)},strKs kps=some ks→kps.map (·.1)=ks.map Sum.inr
 | [],ks,e=>by simp [strKs] at e;subst e;rfl
 | (.inr l,v)::r,ks,e=>by
  simp only [strKs,Option.map_eq_some_iff] at e
  obtain ⟨ks',e1,rfl⟩:=e
  simp [strKs_map e1]
 | (.inl _,_)::_,ks,e=>by simp [strKs] at e
def pSorted(ps:List PV)(h:List PO):Res PV:=match ps with
 | [p]=>match dcR h p with
  | some kps=>match strKs kps with
   | some ks=>if ks.length<64 then .ok (.lst ((sortL ks).map PV.str)) h else .bad
   | none=>.bad
  | none=>.bad
 | _=>.bad
section
variable {X:Cx} {T:Tab} {Ew:VK} {a b e o:Expr} {es:List Expr} {fa fb fo:Ex} {fs:Ax} {pos p0:Pos}
theorem re_sorted(hc:X.calm=true)(hg:Gl X "sorted")(hm:X.mg "sorted"=none)(ha:RA X T Ew (e::es) fs)
  (he:starEach (e::es) X.env=(false,eval e X.env)::starEach es X.env:=by rfl) (hpl:(backTo pos (starEach es X.env)).any (·.1)=false:=by rfl):
  RE X T Ew (.Call (.Name "sorted" p0) (e::es) [] pos) (cN pSorted fs):=by with_unfolding_all exact (
  re_callB (call_sorted hc) (by
 intro F m h H xs ps Q Ew R rp w
 unfold pSorted at w
 split at w
 ·rename_i p
  obtain ⟨x,rfl,rx⟩:=rp.one
  cases e1:dcR h p with
  | none=>rw [e1] at w;exact w.elim
  | some kps=>
   rw [e1] at w
   dsimp only at w
   cases e2:strKs kps with
   | none=>rw [e2] at w;exact w.elim
   | some ks=>
    rw [e2] at w
    dsimp only at w
    by_cases hz:ks.length<64
    ·rw [if_pos hz] at w
     obtain ⟨a,kvs,rfl,rd,kk,rr⟩:=dcR_rep R rx e1
     have ek:kvs.map (·.1)=ks.map (fun k:List Nat=>(Sum.inr ⟨k.toArray⟩:Key)):=by
      have z:=congrArg (List.map tk) (strKs_map e2)
      rw [List.map_map,List.map_map] at z
      rw [kk];exact z
     have lk:kvs.length=ks.length:=by have:=congrArg List.length ek;simpa using this
     refine ⟨a,kvs,ks,rfl,rd,ek,by omega,post_lst w R ?_⟩
     have:=reps_ls (T:=T) (K:=X.K) (F:=F) (m:=m) (sortL ks)
     exact this
    ·rw [if_neg hz] at w;exact w.elim
 ·exact w.elim) hg hm (by decide+kernel) ha (by decide) (by decide) he hpl)
def keyE:PK→PyData
 | .inl i=>.int i
 | .inr l=>.str (S l)
mutual
def toE:PV→PyData
 | .bl b=>.bool b
 | .int i=>.int i
 | .str l=>.str (S l)
 | .lst xs=>.list (toEs xs)
 | .dct kvs=>.dict (toEk kvs)
 | _=>.none
def toEs:List PV→List PyData
 | []=> []
 | x::r=>toE x::toEs r
def toEk:List (PK×PV)→List (PyData×PyData)
 | []=> []
 | (k,x)::r=>(keyE k,toE x)::toEk r
end
mutual
def datE:PV→Bool
 | .bl _=>true
 | .int _=>true
 | .str _=>true
 | .lst xs=>datEs xs
 | .dct kvs=>datEk kvs
 | _=>false
def datEs:List PV→Bool
 | []=>true
 | x::r=>datE x&&datEs r
def datEk:List (PK×PV)→Bool
 | []=>true
 | (_,x)::r=>datE x&&datEk r
end
theorem toEk_fst:∀ kvs:List (PK×PV),(toEk kvs).map (·.1)=kvs.map (fun p=>keyE p.1)
 | []=>by simp [toEk]
 | (k,x)::r=>by simp [toEk,toEk_fst r]
theorem toEk_snd:∀ kvs:List (PK×PV),(toEk kvs).map (·.2)=toEs (kvs.map (·.2))
 | []=>by simp [toEk,toEs]
 | (k,x)::r=>by simp [toEk,toEs,toEk_snd r]
theorem datEk_snd:∀ kvs:List (PK×PV),datEk kvs=datEs (kvs.map (·.2))
 | []=>by simp [datEk,datEs]
 | (k,x)::r=>by simp [datEk,datEs,datEk_snd r]
theorem keyE_tk(k:PK):keyD (tk k)=keyE k:=by cases k<;>rfl
mutual
theorem RepV.rdR{K:PySem.W.Frag}{F H:Hp}{m:List Addr}(sm:Same F H):∀ {p:PV} {x:V},RepV K T F m p x→datE p=true→RdR H x (toE p)
 | _,_,.bl b,_=>by rw [toE];exact .bl b
 | _,_,.int i,_=>by rw [toE];exact .int i
 | _,_,.str l,_=>by rw [toE];exact .str (S l)
 | _,_,.lst e r,h=>by rw [datE] at h;rw [toE];exact .lst (.inl (sm _ _ e)) (RepVs.rdR sm r h)
 | _,_,.dct (kps:=kps) (kvs:=kvs) e k r,h=>by
  rw [datE,datEk_snd] at h
  rw [toE]
  refine .dct (.inr ⟨_,sm _ _ e⟩) ?_ (by rw [toEk_snd];exact RepVs.rdR sm r h)
  rw [toEk_fst]
  have z:=congrArg (List.map keyD) k
  rw [List.map_map,List.map_map] at z
  refine Eq.trans ?_ z.symm
  exact List.map_congr_left fun p _=>(keyE_tk p.1).symm
 | _,_,.non,h=>by simp [datE] at h
 | _,_,.ty _,h=>by simp [datE] at h
 | _,_,.cls _,h=>by simp [datE] at h
 | _,_,.tup _ _,h=>by simp [datE] at h
 | _,_,.giv _ _,h=>by simp [datE] at h
 | _,_,.ins _ _ _ _ _,h=>by simp [datE] at h
 | _,_,.ref _,h=>by simp [datE] at h
 | _,_,.exc _ _,h=>by simp [datE] at h
theorem RepVs.rdR{K:PySem.W.Frag}{F H:Hp}{m:List Addr}(sm:Same F H):∀ {p:List PV} {x:List V},RepVs K T F m p x→datEs p=true→RdRs H x (toEs p)
 | _,_,.nil,_=>by rw [toEs];exact .nil
 | _,_,.cons r t,h=>by
  rw [datEs,Bool.and_eq_true] at h
  rw [toEs]
  exact .cons (RepV.rdR sm r h.1) (RepVs.rdR sm t h.2)
end
def okE(p:PV):Bool:=datE p&&decide ((toE p).depth≤60)&&(toE p).showable&&decide ((toE p).shown.length≤sizeLine)
def pReprD(ps:List PV)(h:List PO):Res PV:=match ps with
 | [.dct kvs]=>if okE (.dct kvs)=true then .ok (.str (toE (.dct kvs)).shown.cps.toList) h else .bad
 | _=>.bad
theorem re_reprD{k:Nat}(hr:Room k X.A)(hg:Gl X "repr")(hm:X.mg "repr"=none)(ha:RA X T Ew (e::es) fs)
  (he:starEach (e::es) X.env=(false,eval e X.env)::starEach es X.env:=by rfl) (hpl:(backTo pos (starEach es X.env)).any (·.1)=false:=by rfl):
  RE X T Ew (.Call (.Name "repr" p0) (e::es) [] pos) (cN pReprD fs):=by with_unfolding_all exact (
  re_callB (call_reprD hr.gd hr.units) (by
 intro F m h H xs ps Q Ew R rp w
 unfold pReprD at w
 split at w
 ·rename_i kvs
  obtain ⟨x,rfl,rx⟩:=rp.one
  by_cases c:okE (.dct kvs)=true
  ·rw [if_pos c] at w
   simp only [okE,Bool.and_eq_true,decide_eq_true_eq] at c
   obtain ⟨⟨⟨c1,c2⟩,c3⟩,c4⟩:=c
   have rd:=RepV.rdR R.same rx c1
   cases rx with
   | dct ee kk rr=>
    rw [toE] at rd c2 c3 c4 w
    exact ⟨_,_,rfl,rd,c3,c2,c4,post_ok w R (rep_S _)⟩
  ·rw [if_neg c] at w;exact w.elim
 ·exact w.elim) hg hm (by decide+kernel) ha (by decide) (by decide) he hpl)
def rCat0(K:PySem.W.Frag):R2:=fun x y H Q=>∃ a b ys,x= .ref a∧y= .ref b∧SqT K H a []∧SqT K H b ys∧Q (.ref b) H
theorem op_cat0:OpR X (binaryOp .Add) (rCat0 X.K):=by
 intro pins s σ H x y v u Q I rx ry h
 obtain ⟨p,q,ys,rfl,rfl,hp,hq,k⟩:=h
 cases rx
 cases ry
 obtain ⟨its,r1,t1,_⟩:=I.tuple hp
 obtain ⟨its2,r2,t2,_⟩:=I.tuple hq
 obtain ⟨⟨c1,d1,dt1,sl1⟩,g1,rfl,n1,rfl⟩:=id t1
 obtain ⟨⟨c2,d2,dt2,sl2⟩,g2,rfl,n2,rfl⟩:=id t2
 have e0:its= []:=r1.nil_iff.mpr rfl
 exact concat_meets ⟨_,g1,rfl⟩ ⟨_,g2,rfl⟩ noFill_tuple_add seq_tuple_add F.slot_tuple_add F.entry_tuple_add (F.args_tuple_add_2 _ _) (tuple_addW0 p q _ _ n1 n2 d1 d2 sl1 sl2 (by simp [e0])) ⟨g1,g2,.ref q,H,I,rfl,k⟩
def pAddE(p q:PV)(h:List PO):Res PV:=match p,q with
 | .tup [],.tup b=>.ok (.tup b) h
 | p,q=>pAdd p q h
theorem prim_addE{K:PySem.W.Frag}:Prim2 K T (fun x y H Q=>rCat0 K x y H Q∨rAddA K x y H Q) pAddE:=by
 intro F m h H x y p q Q Ew R rp rq w
 unfold pAddE at w
 split at w
 ·obtain ⟨pa,va,rfl,ea,ra⟩:=tup_rep R rp
  obtain ⟨pb,vb,rfl,eb,rb⟩:=tup_rep R rq
  cases ra
  exact .inl ⟨pa,pb,vb,rfl,rfl,ea,eb,post_ok w R rq⟩
 ·exact .inr (prim_add F m h H x y _ _ Q Ew R rp rq w)
theorem re_addE(ha:RE X T Ew a fa)(hb:RE X T Ew b fb):RE X T Ew (.BinOp a .Add b pos) (c2 pAddE fa fb):=by with_unfolding_all exact (
  re_op (OpR.or op_cat0 op_addA) prim_addE ha hb)
def rJoinT(K:PySem.W.Frag):V→List V→Hp→VK→Prop:=fun x xs H Q=>∃ sep p ys,x= .str sep∧xs= [.ref p]∧SqT K H p (ys.map V.str)∧(ys.map (·.length)).sum+ys.length * sep.length≤16777216∧Q (.str (Txt.join sep ys)) H
theorem mt_joinT:MtR X "str.join" (rJoinT X.K):=by
 intro pins s σ H x xs v us Q I rx rv h
 obtain ⟨sep,p,ys,rfl,rfl,hp,hz,q⟩:=h
 obtain ⟨t,rfl⟩:=rx
 obtain ⟨u,rfl,ru⟩:=rv.one
 cases ru
 obtain ⟨its,r,pl,_⟩:=I.tuple hp
 exact join_tuple pl (by simpa using strsAre_of r) hz fun t' k=>⟨.str _,H,I.tok k,⟨t',rfl⟩,q⟩
def pJoinT(p:PV)(ps:List PV)(h:List PO):Res PV:=match p,ps with
 | .str sep,[.tup xs]=>match strsOf xs with
  | some ls=>if (ls.map (·.length)).sum+ls.length * sep.length≤16777216 then .ok (.str (joinL sep ls)) h else .bad
  | none=>.bad
 | _,_=>.bad
theorem prim_joinT{K:PySem.W.Frag}:PrimM K T (rJoinT K) pJoinT:=by
 intro F m h H x xs p ps Q Ew R rp rs w
 unfold pJoinT at w
 split at w
 ·rename_i sep zs
  cases rp
  obtain ⟨y,rfl,ry⟩:=rs.one
  split at w
  ·rename_i ls el
   split at w
   ·rename_i hz
    obtain ⟨a,vs,rfl,sq,rr⟩:=tup_rep R ry
    have e1:=strsOf_map el
    subst e1
    rw [reps_strs rr] at sq
    refine ⟨_,a,ls.map S,rfl,rfl,sq,?_,by rw [S_join];exact post_ok w R (.str _)⟩
    have e2:(ls.map S).map (·.length)=ls.map (·.length):=by
     rw [List.map_map];apply List.map_congr_left;intro l _;exact S_len l
    rw [e2,List.length_map,S_len];exact hz
   ·exact w.elim
  ·exact w.elim
 ·exact w.elim
end
end L3
namespace L3
open PySem L2
section
variable (ρ:Ev) (h:List PO)
@[simp] theorem ev_var(i:Nat):cVar i ρ h=match ρ[i]? with | some (some p)=>.ok (derefP h p) h | _=>.bad:=id rfl
@[simp] theorem ev_K(v:PV):cK v ρ h= .ok v h:=id rfl
@[simp] theorem ev_c1(g:PV→List PO→Res PV)(a:Ex):c1 g a ρ h=(a ρ h).bind g:=id rfl
@[simp] theorem ev_c2(g:PV→PV→List PO→Res PV)(a b:Ex):c2 g a b ρ h=(a ρ h).bind fun x h1=>(b ρ h1).bind fun y h2=>g x y h2:=id rfl
@[simp] theorem ev_cN(g:List PV→List PO→Res PV)(a:Ax):cN g a ρ h=(a ρ h).bind g:=id rfl
@[simp] theorem ev_nil:aNil ρ h= .ok [] h:=id rfl
@[simp] theorem ev_cons(a:Ex)(r:Ax):aCons a r ρ h=(a ρ h).bind fun x h1=>(r ρ h1).bind fun xs h2=>.ok (x::xs) h2:=id rfl
@[simp] theorem ev_and(f g:Ex):cAnd f g ρ h=(f ρ h).bind fun p h1=>match p with | .bl b=>if b=true then g ρ h1 else .ok (.bl false) h1 | _=>.bad:=id rfl
@[simp] theorem ev_or(f g:Ex):cOr f g ρ h=(f ρ h).bind fun p h1=>match p with | .bl b=>if b=true then .ok (.bl true) h1 else g ρ h1 | _=>.bad:=id rfl
@[simp] theorem ev_chain(g g':PV→PV→List PO→Res PV)(a b c:Ex):cChain g g' a b c ρ h=(a ρ h).bind fun x h1=>(b ρ h1).bind fun y h2=>(g x y h2).bind fun z h3=>match z with | .bl k=>if k=true then (c ρ h3).bind fun u h4=>g' y u h4 else .ok (.bl false) h3 | _=>.bad:=id rfl
@[simp] theorem ev_sl(a:Ex)(lo hi:Ox):cSl a lo hi ρ h=(a ρ h).bind fun p h1=>(lo ρ h1).bind fun l h2=>(hi ρ h2).bind fun u h3=>pSl p l u h3:=id rfl
@[simp] theorem ev_oNone:oNone ρ h= .ok none h:=id rfl
@[simp] theorem ev_oSome(f:Ex):oSome f ρ h=(f ρ h).bind fun p h1=>match p with | .int i=>.ok (some i) h1 | _=>.bad:=id rfl
@[simp] theorem ev_cM(recv:List PO→PV→Bool)(g:PV→List PV→List PO→Res PV)(o:Ex)(as:Ax):cM recv g o as ρ h=(o ρ h).bind fun p h1=>if recv h1 p=true then (as ρ h1).bind fun ps h2=>g p ps h2 else .bad:=id rfl
@[simp] theorem ev_call(fn:List PV→Out)(as:Ax):cCall fn as ρ h=(as ρ h).bind (callO fn):=id rfl
@[simp] theorem ev_tTru(f:Ex):tTruE f ρ h=(f ρ h).bind fun p h1=>match truP h1 p with | some b=>.ok b h1 | none=>.bad:=id rfl
@[simp] theorem ev_tCmp(f:Ex):tCmpE f ρ h=(f ρ h).bind fun p h1=>match p with | .bl b=>.ok b h1 | _=>.bad:=id rfl
@[simp] theorem ev_tNot(f:Tx):tNotE f ρ h=(f ρ h).bind fun b h1=>.ok (!b) h1:=id rfl
@[simp] theorem ev_tAnd(f g:Tx):tAndE f g ρ h=(f ρ h).bind fun b h1=>if b=true then g ρ h1 else .ok false h1:=id rfl
@[simp] theorem ev_tOr(f g:Tx):tOrE f g ρ h=(f ρ h).bind fun b h1=>if b=true then .ok true h1 else g ρ h1:=id rfl
@[simp] theorem ev_range1(f:Ax):aRange1 f ρ h=(f ρ h).bind fun ps h1=>match ps with | [.int j]=>if bel 4611686018427387904 j=true then .ok ((List.range j.toNat).map fun i=>PV.int (0+(i:Nat))) h1 else .bad | _=>.bad:=id rfl
@[simp] theorem ev_aSeq(f:Ex):aSeq f ρ h=(f ρ h).bind seqIt:=id rfl
@[simp] theorem ev_aComp(caps:List Nat)(it:Ax)(tt:Tx)(te:Ex):aComp caps it tt te ρ h=(it ρ h).bind fun xs h1=>if xs.length<sizeLine then compL tt te (capP caps ρ) xs h1 else .bad:=id rfl
@[simp] theorem ev_sNil:sNil ρ h= .nx ρ h:=id rfl
@[simp] theorem ev_sSeq(f g:Sx):sSeq f g ρ h=match f ρ h with | .nx ρ1 h1=>g ρ1 h1 | .rt v h1=>.rt v h1 | .bk ρ1 h1=>.bk ρ1 h1 | .ct ρ1 h1=>.ct ρ1 h1 | .exc v h1=>.exc v h1 | .bad=>.bad:=id rfl
@[simp] theorem ev_sRet(f:Ex):sRet f ρ h=eThen (f ρ h) fun v h1=>.rt v h1:=id rfl
@[simp] theorem ev_sDrop(f:Ex):sDrop f ρ h=eThen (f ρ h) fun _ h1=>.nx ρ h1:=id rfl
@[simp] theorem ev_sIf(t:Tx)(f g:Sx):sIf t f g ρ h=bThen (t ρ h) fun b h1=>if b=true then f ρ h1 else g ρ h1:=id rfl
@[simp] theorem ev_sSet(i:Nat)(f:Ex):sSet i f ρ h=eThen (f ρ h) fun v h1=>.nx (ρ.set i (some v)) h1:=id rfl
@[simp] theorem ev_sFor(it:Ax)(g:Gx)(body:Sx):sFor it g body ρ h=lThen (it ρ h) fun xs h1=>loopS g body xs ρ h1:=id rfl
@[simp] theorem ev_loop0(g:Gx)(body:Sx):loopS g body [] ρ h= .nx ρ h:=id rfl
@[simp] theorem ev_gNm(i:Nat)(p:PV):gNm i p ρ=some (ρ.set i (some p)):=id rfl
end
theorem ev_loop(g:Gx)(body:Sx)(p:PV)(r:List PV)(ρ:Ev)(h:List PO):loopS g body (p::r) ρ h=match g p ρ with
  | some ρ1=>(match body ρ1 h with
   | .nx ρ2 h2=>loopS g body r ρ2 h2
   | .ct ρ2 h2=>loopS g body r ρ2 h2
   | .bk ρ2 h2=>.nx ρ2 h2
   | .rt v h2=>.rt v h2
   | .exc v h2=>.exc v h2
   | .bad=>.bad)
  | none=>.bad:=rfl
section
variable (h:List PO)
@[simp] theorem dr_int(i:Int):derefP h (.int i)= .int i:=id rfl
@[simp] theorem dr_bl(i:Bool):derefP h (.bl i)= .bl i:=id rfl
@[simp] theorem dr_str(i:List Nat):derefP h (.str i)= .str i:=id rfl
@[simp] theorem dr_non:derefP h .non= .non:=id rfl
@[simp] theorem dr_tup(i:List PV):derefP h (.tup i)= .tup i:=id rfl
@[simp] theorem dr_lst(i:List PV):derefP h (.lst i)= .lst i:=id rfl
@[simp] theorem dr_giv(i:List PV):derefP h (.giv i)= .giv i:=id rfl
@[simp] theorem dr_dct(i:List (PK×PV)):derefP h (.dct i)= .dct i:=id rfl
@[simp] theorem dr_ref0(xs:List PV)(r:List PO):derefP (.lst xs::r) (.ref 0)= .ref 0:=id rfl
@[simp] theorem add_ii(i j:Int):pAdd (.int i) (.int j) h= .ok (.int (i+j)) h:=id rfl
@[simp] theorem add_ss(a b:List Nat):pAdd (.str a) (.str b) h=if a.length+b.length≤sizeLine then .ok (.str (a++b)) h else .bad:=id rfl
@[simp] theorem add_tt(a b:List PV):pAdd (.tup a) (.tup b) h=if a.isEmpty=false∧a.length+b.length≤sizeLine then .ok (.tup (a++b)) h else .bad:=id rfl
@[simp] theorem add_ll(a b:List PV):pAdd (.lst a) (.lst b) h=if a.length+b.length≤sizeLine then .ok (.lst (a++b)) h else .bad:=id rfl
@[simp] theorem sub_ii(i j:Int):pSub (.int i) (.int j) h= .ok (.int (i - j)) h:=id rfl
@[simp] theorem mul_ii(i j:Int):pMul (.int i) (.int j) h=if mulC i j=true then .ok (.int (i * j)) h else .bad:=id rfl
@[simp] theorem mul_si(a:List Nat)(k:Int):pMul (.str a) (.int k) h=if bel 1048576 k=true∧a.length * k.toNat≤1048576 then .ok (.str (repL a k)) h else .bad:=id rfl
@[simp] theorem pI_ii(C:Int→Int→Bool)(g:Int→Int→Int)(i j:Int):pI C g (.int i) (.int j) h=if C i j=true then .ok (.int (g i j)) h else .bad:=id rfl
@[simp] theorem neg_i(i:Int):pNeg (.int i) h= .ok (.int (-i)) h:=id rfl
@[simp] theorem cmp_ii(g:Int→Int→Bool)(i j:Int):pCmp g (.int i) (.int j) h= .ok (.bl (g i j)) h:=id rfl
@[simp] theorem ix_si(l:List Nat)(i:Int):pIx (.str l) (.int i) h=match atI l i with | some c=>if l.length≤sizeLine then .ok (.str [c]) h else .bad | none=>.bad:=id rfl
@[simp] theorem ix_ti(l:List PV)(i:Int):pIx (.tup l) (.int i) h=match atI l i with | some v=>.ok (derefP h v) h | none=>.bad:=id rfl
@[simp] theorem ix_li(l:List PV)(i:Int):pIx (.lst l) (.int i) h=match atI l i with | some v=>.ok (derefP h v) h | none=>.bad:=id rfl
@[simp] theorem ix_gi(l:List PV)(i:Int):pIx (.giv l) (.int i) h=match atI l i with | some v=>.ok (derefP h v) h | none=>.bad:=id rfl
@[simp] theorem sl_s(l:List Nat)(lo hi:Option Int):pSl (.str l) lo hi h=if l.length≤sizeLine then .ok (.str (cut l lo hi)) h else .bad:=id rfl
@[simp] theorem len_s(l:List Nat):pLen [.str l] h=match (if l.length≤sizeLine then some l.length else none) with | some n=>.ok (.int n) h | none=>.bad:=id rfl
@[simp] theorem len_t(l:List PV):pLen [.tup l] h= .ok (.int l.length) h:=id rfl
@[simp] theorem len_l(l:List PV):pLen [.lst l] h= .ok (.int l.length) h:=id rfl
@[simp] theorem len_g(l:List PV):pLen [.giv l] h= .ok (.int l.length) h:=id rfl
@[simp] theorem lst_mk(ps:List PV):pLst ps h=if ps.length≤sizeLine then .ok (.lst ps) h else .bad:=id rfl
@[simp] theorem lstM_mk(ps:List PV):pLstM ps h=if ps.length≤sizeLine then .ok (.ref h.length) (h++ [.lst ps]) else .bad:=id rfl
@[simp] theorem tup_mk(ps:List PV):pTup ps h=if ps.length≤sizeLine then .ok (.tup ps) h else .bad:=id rfl
@[simp] theorem okL_mk(ps:List PV):okL ps h= .ok (.lst ps) h:=id rfl
@[simp] theorem int_b(b:Bool):pInt [.bl b] h= .ok (.int (if b then 1 else 0)) h:=id rfl
@[simp] theorem abs_i(i:Int):pAbs [.int i] h= .ok (.int (if i<0 then -i else i)) h:=id rfl
@[simp] theorem seqIt_s(l:List Nat):seqIt (.str l) h= .ok (l.map fun c=>PV.str [c]) h:=id rfl
@[simp] theorem seqIt_t(l:List PV):seqIt (.tup l) h= .ok l h:=id rfl
@[simp] theorem seqIt_l(l:List PV):seqIt (.lst l) h= .ok l h:=id rfl
@[simp] theorem isStr_s(x:List Nat):isStr h (.str x)=true:=id rfl
@[simp] theorem frz_int(i:Int):frzV h (.int i)=some (.int i,h):=by simp [frzV,PV.pure]
@[simp] theorem frz_bl(i:Bool):frzV h (.bl i)=some (.bl i,h):=by simp [frzV,PV.pure]
@[simp] theorem frz_non:frzV h .non=some (.non,h):=by simp [frzV,PV.pure]
@[simp] theorem frz_str(i:List Nat):frzV h (.str i)=some (.str i,h):=by simp [frzV,PV.pure]
theorem frz_giv{l:List PV}(q:pures l=true):frzV h (.giv l)=some (.giv l,h):=by simp [frzV,PV.pure,q]
theorem frz_lst{l:List PV}(q:pures l=true):frzV h (.lst l)=some (.lst l,h):=by simp [frzV,PV.pure,q]
theorem frz_tup{l:List PV}(q:pures l=true):frzV h (.tup l)=some (.tup l,h):=by simp [frzV,PV.pure,q]
@[simp] theorem frzs_nil:frzs [] h=some ([],h):=id rfl
@[simp] theorem frzs_cons(p:PV)(r:List PV):frzs (p::r) h=match frzV h p with | some (q,h1)=>(match frzs r h1 with | some (qs,h2)=>some (q::qs,h2) | none=>none) | none=>none:=id rfl
@[simp] theorem notin_ss(a b:List Nat):pNotIn (.str a) (.str b) h= .ok (.bl (!inStr a b)) h:=id rfl
@[simp] theorem tru_b(b:Bool):truP h (.bl b)=some b:=id rfl
@[simp] theorem isin_s_str(l:List Nat):pIsinst [.str l,.ty "str"] h= .ok (.bl true) h:=id rfl
@[simp] theorem isin_s_int(l:List Nat):pIsinst [.str l,.ty "int"] h= .ok (.bl false) h:=id rfl
@[simp] theorem isin_s_bool(l:List Nat):pIsinst [.str l,.ty "bool"] h= .ok (.bl false) h:=id rfl
@[simp] theorem isin_s_list(l:List Nat):pIsinst [.str l,.ty "list"] h= .ok (.bl false) h:=id rfl
@[simp] theorem isin_s_dict(l:List Nat):pIsinst [.str l,.ty "dict"] h= .ok (.bl false) h:=id rfl
@[simp] theorem isin_i_int(l:Int):pIsinst [.int l,.ty "int"] h= .ok (.bl true) h:=id rfl
@[simp] theorem isin_i_bool(l:Int):pIsinst [.int l,.ty "bool"] h= .ok (.bl false) h:=id rfl
@[simp] theorem isin_i_list(l:Int):pIsinst [.int l,.ty "list"] h= .ok (.bl false) h:=id rfl
@[simp] theorem isin_i_dict(l:Int):pIsinst [.int l,.ty "dict"] h= .ok (.bl false) h:=id rfl
@[simp] theorem isin_b_bool(l:Bool):pIsinst [.bl l,.ty "bool"] h= .ok (.bl true) h:=id rfl
@[simp] theorem isin_b_list(l:Bool):pIsinst [.bl l,.ty "list"] h= .ok (.bl false) h:=id rfl
@[simp] theorem isin_b_dict(l:Bool):pIsinst [.bl l,.ty "dict"] h= .ok (.bl false) h:=id rfl
@[simp] theorem isin_n_str:pIsinst [.non,.ty "str"] h= .ok (.bl false) h:=id rfl
@[simp] theorem isin_n_int:pIsinst [.non,.ty "int"] h= .ok (.bl false) h:=id rfl
@[simp] theorem isin_n_bool:pIsinst [.non,.ty "bool"] h= .ok (.bl false) h:=id rfl
@[simp] theorem isin_n_list:pIsinst [.non,.ty "list"] h= .ok (.bl false) h:=id rfl
@[simp] theorem isin_n_dict:pIsinst [.non,.ty "dict"] h= .ok (.bl false) h:=id rfl
@[simp] theorem isin_t_str(l:List PV):pIsinst [.tup l,.ty "str"] h= .ok (.bl false) h:=id rfl
@[simp] theorem isin_t_int(l:List PV):pIsinst [.tup l,.ty "int"] h= .ok (.bl false) h:=id rfl
@[simp] theorem isin_t_bool(l:List PV):pIsinst [.tup l,.ty "bool"] h= .ok (.bl false) h:=id rfl
@[simp] theorem isin_t_list(l:List PV):pIsinst [.tup l,.ty "list"] h= .ok (.bl false) h:=id rfl
@[simp] theorem isin_t_tuple(l:List PV):pIsinst [.tup l,.ty "tuple"] h= .ok (.bl true) h:=id rfl
@[simp] theorem isin_t_dict(l:List PV):pIsinst [.tup l,.ty "dict"] h= .ok (.bl false) h:=id rfl
@[simp] theorem isin_l_int(l:List PV):pIsinst [.lst l,.ty "int"] h= .ok (.bl false) h:=id rfl
@[simp] theorem isin_l_bool(l:List PV):pIsinst [.lst l,.ty "bool"] h= .ok (.bl false) h:=id rfl
@[simp] theorem isin_l_list(l:List PV):pIsinst [.lst l,.ty "list"] h= .ok (.bl true) h:=id rfl
@[simp] theorem isin_l_dict(l:List PV):pIsinst [.lst l,.ty "dict"] h= .ok (.bl false) h:=id rfl
@[simp] theorem isin_d_int(l:List (PK×PV)):pIsinst [.dct l,.ty "int"] h= .ok (.bl false) h:=id rfl
@[simp] theorem isin_d_bool(l:List (PK×PV)):pIsinst [.dct l,.ty "bool"] h= .ok (.bl false) h:=id rfl
@[simp] theorem isin_d_list(l:List (PK×PV)):pIsinst [.dct l,.ty "list"] h= .ok (.bl false) h:=id rfl
@[simp] theorem isin_d_dict(l:List (PK×PV)):pIsinst [.dct l,.ty "dict"] h= .ok (.bl true) h:=id rfl
end
theorem szl:(sizeLine:Nat)=16777216:=by decide
theorem callO_def(fn:List PV→Out)(ps:List PV)(h:List PO):callO fn ps h=match frzs ps h with | some (qs,h2)=>(match fn qs with | .ok v=>.ok v h2 | .bad=>.bad) | none=>.bad:=rfl
theorem mulC_r{i j:Int}(h:bel 18446744073709551616 j=true):mulC i j=true:=by unfold mulC;rw [h,Bool.or_true]
theorem mulC_l{i j:Int}(h:bel 18446744073709551616 i=true):mulC i j=true:=by unfold mulC;rw [h,Bool.true_or]
theorem pEq_ss(a b:List Nat)(h:List PO)(ha:∀ c∈a,c<1114112)(hb:∀ c∈b,c<1114112):pEq (.str a) (.str b) h= .ok (.bl (decide (a=b))) h:=by
 have ok:∀ l:List Nat,(∀ c∈l,c<1114112)→okD h (.str l)=true:=by
  intro l hl
  unfold okD dOf
  simp only [toD,PyData.canLay0,PyData.depth]
  simp [PyData.strOk,S]
  exact hl
 unfold pEq
 rw [if_pos ⟨ok a ha,ok b hb⟩]
 have e:PyData.eqv (dOf h (.str a)) (dOf h (.str b))=decide (a=b):=by
  show PyData.eqv (toD (.str a)) (toD (.str b))=_
  simp only [toD,PyData.eqv]
  by_cases q:a=b
  ·subst q;simp
  ·have:¬ S a=S b:=fun z=>q (S_inj z)
   simp [q,this]
 rw [e]
end L3
namespace L3
open PySem L2
theorem compL_filter{tt:Tx}{te:Ex}{cp:Ev}{h:List L3.PO}{t:PV→Bool}{f:PV→PV}:∀ (xs:List PV),(∀ p∈xs,tt (some p::cp) h= .ok (t p) h)→(∀ p∈xs,te (some p::cp) h= .ok (f p) h)→
  compL tt te cp xs h= .ok ((xs.filter t).map f) h
 | [],_,_=>rfl
 | p::r,h1,h2=>by
  have ih:=compL_filter r (fun q hq=>h1 q (List.mem_cons_of_mem _ hq)) (fun q hq=>h2 q (List.mem_cons_of_mem _ hq))
  rw [compL,h1 p List.mem_cons_self]
  cases e:t p with
  | true=>simp only [Res.bind_ok,if_true,h2 p List.mem_cons_self,ih,List.filter_cons,e,List.map_cons]
  | false=>simp only [Res.bind_ok,Bool.false_eq_true,if_false,ih,List.filter_cons,e]
theorem compL_map{te:Ex}{cp:Ev}{h:List L3.PO}{f:PV→PV}(xs:List PV)(h2:∀ p∈xs,te (some p::cp) h= .ok (f p) h):compL tYesE te cp xs h= .ok (xs.map f) h:=by
 have:=compL_filter (tt:=tYesE) (t:=fun _=>true) xs (fun _ _=>rfl) h2
 rw [this,List.filter_eq_self.mpr (fun _ _=>rfl)]
theorem atI_getD{α:Type}{xs:List α}{i:Int}(d:α)(h0:0≤i)(h1:i<(xs.length:Int)):atI xs i=some (xs.getD i.toNat d):=by
 refine atI_at h0 ?_
 rw [List.getD_eq_getElem?_getD,List.getElem?_eq_getElem (by omega)];rfl
theorem getD_mem{α:Type}{xs:List α}{n:Nat}{d:α}(h:n<xs.length):xs.getD n d∈xs:=by
 rw [List.getD_eq_getElem?_getD,List.getElem?_eq_getElem h];exact List.getElem_mem h
theorem joinL_nil:∀ ls:List (List Nat),joinL [] ls=ls.flatten
 | []=>rfl
 | [x]=>by simp [joinL]
 | x::y::r=>by
  show x++ []++joinL [] (y::r)=_
  rw [joinL_nil (y::r),List.append_nil];rfl
theorem pJoin_of{sep:List Nat}{q:PV}{ls:List (List Nat)}{h:List L3.PO}(e:lsR h q=some (ls.map PV.str))(hz:(ls.map (fun l=>l.length)).sum+ls.length * sep.length≤16777216):pJoin (.str sep) [q] h= .ok (.str (joinL sep ls)) h:=by
 unfold pJoin
 simp only [e,strsOf_of,hz,if_true]
theorem pJoin_l{ls:List (List Nat)}{h:List L3.PO}(hz:(ls.map (fun l=>l.length)).sum≤16777216):pJoin (.str []) [.lst (ls.map PV.str)] h= .ok (.str ls.flatten) h:=by
 rw [pJoin_of (ls:=ls) rfl (by simpa using hz),joinL_nil]
theorem app0(xs:List PV)(r:List L3.PO)(p:PV):pAppend (.ref 0) [p] (.lst xs::r)=if xs.length<sizeLine then .ok .non (.lst (xs++ [p])::r) else .bad:=rfl
theorem isLst0(xs:List PV)(r:List L3.PO):isLst (.lst xs::r) (.ref 0)=true:=rfl
theorem pEq_ii(a b:Int)(h:List L3.PO):pEq (.int a) (.int b) h= .ok (.bl (decide (a=b))) h:=by
 have ok:∀ l:Int,okD h (.int l)=true:=fun l=>by unfold okD dOf;simp [toD,PyData.canLay0,PyData.depth]
 unfold pEq
 rw [if_pos ⟨ok a,ok b⟩]
 have e:PyData.eqv (dOf h (.int a)) (dOf h (.int b))=decide (a=b):=by
  show PyData.eqv (toD (.int a)) (toD (.int b))=_
  simp only [toD,PyData.eqv]
  by_cases q:a=b<;>simp [q]
 rw [e]
def dig(n:Nat):List Nat:=(Nat.toDigits 10 n).map Char.toNat
theorem dig_all(n:Nat):∀ c∈dig n,48≤c∧c≤57:=by
 intro c hc
 obtain ⟨ch,h1,rfl⟩:=List.mem_map.mp hc
 exact PyProof.Rows.digit_range (Nat.isDigit_of_mem_toDigits (by decide) (by decide) h1)
theorem strI_eq(i:Int):strI i=if 0≤i then dig i.toNat else 45::dig (-i).toNat:=by
 unfold strI dig
 rw [PyProof.Rows.signs_ofString,Int.toString_eq_repr,Int.repr_eq_if]
 split
 ·rw [Nat.toList_repr]
 ·rw [String.toList_append,List.map_append,Nat.toList_repr];rfl
theorem sum_one{α:Type}(f:α→List Nat)(h:∀ x,(f x).length=1){l:List α}:((l.map f).map (fun l=>l.length)).sum=l.length:=by
 induction l with
 | nil=>rfl
 | cons a r ih=>rw [List.map_cons,List.map_cons,List.sum_cons,ih,h,List.length_cons,Nat.add_comm]
end L3
namespace L3
open PySem L2
theorem sW_bad{t:Tx}{body:Sx}{ρ:Ev}{h:List L3.PO}(q:sWhile t body ρ h≠.bad):∃ n,whl t body n ρ h≠.bad∧sWhile t body ρ h=whl t body n ρ h:=by
 unfold sWhile at q ⊢
 split at q
 ·rename_i z
  exact ⟨z.choose,q,by rw [dif_pos z]⟩
 ·exact absurd rfl q
theorem sW_no{t:Tx}{body:Sx}{ρ:Ev}{h h1:List L3.PO}(e:t ρ h= .ok false h1):sWhile t body ρ h= .nx ρ h1:=by
 have:whl t body 1 ρ h= .nx ρ h1:=by rw [whl,e];rfl
 rw [sWhile_of t body (n:=1) (by rw [this];intro z;cases z),this]
theorem sW_nx{t:Tx}{body:Sx}{ρ ρ2:Ev}{h h1 h2:List L3.PO}{r:SR}(e:t ρ h= .ok true h1)(b:body ρ h1= .nx ρ2 h2)(w:sWhile t body ρ2 h2=r)(hr:r≠.bad):sWhile t body ρ h=r:=by
 obtain ⟨n,q,z⟩:=sW_bad (by rw [w];exact hr)
 have:whl t body (n+1) ρ h=r:=by rw [whl,e];simp only [bThen_ok,if_true,b];rw [← z,w]
 rw [sWhile_of t body (n:=n+1) (by rw [this];exact hr),this]
section
variable (h:List L3.PO)
end
end L3
namespace L3
open PySem L2
section
variable (h:List L3.PO) (ρ:Ev)
@[simp] theorem tuple_l(xs:List PV):pTuple [.lst xs] h= .ok (.tup xs) h:=id rfl
@[simp] theorem sl_l(xs:List PV)(lo hi:Option Int):pSl (.lst xs) lo hi h= .ok (.lst (cut xs lo hi)) h:=id rfl
end
theorem all_bl(bs:List Bool)(h:List L3.PO):pAll [.lst (bs.map PV.bl)] h= .ok (.bl (bs.all id)) h:=by
 have e:boolsOf (bs.map PV.bl)=some bs:=by
  induction bs with
  | nil=>rfl
  | cons b r ih=>simp [boolsOf,ih]
 show (match boolsOf (bs.map PV.bl) with | some bs=>Res.ok (PV.bl (bs.all id)) h | none=>.bad)=_
 rw [e]
theorem ok_str{l:List Nat}(h:List L3.PO)(hl:∀ c∈l,c<1114112):okD h (.str l)=true:=by
 unfold okD dOf
 simp only [toD,PyData.canLay0,PyData.depth]
 simp [PyData.strOk,S]
 exact hl
theorem eqv_ss(a b:List Nat)(ha:∀ c∈a,c<1114112)(hb:∀ c∈b,c<1114112):PyData.eqv (toD (.str a)) (toD (.str b))=decide (a=b):=by
 have:=pEq_ss a b [] ha hb
 unfold pEq at this
 rw [if_pos ⟨ok_str [] ha,ok_str [] hb⟩] at this
 injection this with this
 injection this
theorem any_eqv{x:List Nat}(hx:∀ c∈x,c<1114112):∀ {ls:List (List Nat)},(∀ l∈ls,∀ c∈l,c<1114112)→((ls.map PV.str).any fun y=>PyData.eqv (toD y) (toD (.str x)))=decide (x∈ls)
 | [],_=>rfl
 | l::r,h=>by
  rw [List.map_cons,List.any_cons,eqv_ss l x (h l (by simp)) hx,any_eqv hx fun z hz=>h z (List.mem_cons_of_mem _ hz),Bool.eq_iff_iff,Bool.or_eq_true,decide_eq_true_eq,decide_eq_true_eq,decide_eq_true_eq,List.mem_cons]
  exact or_congr eq_comm Iff.rfl
theorem all_ok:∀ {ls:List (List Nat)},(∀ l∈ls,∀ c∈l,c<1114112)→(ls.map PV.str).all (okD [])=true
 | [],_=>rfl
 | l::r,h=>by rw [List.map_cons,List.all_cons,ok_str [] (h l (by simp)),all_ok fun z hz=>h z (List.mem_cons_of_mem _ hz)];rfl
theorem inB_t{x:List Nat}{ls:List (List Nat)}(hx:∀ c∈x,c<1114112)(hl:∀ l∈ls,∀ c∈l,c<1114112)(h:List L3.PO):pInB (.str x) (.tup (ls.map PV.str)) h=some (decide (x∈ls)):=by
 show (if okD [] (.str x)=true∧(ls.map PV.str).all (okD [])=true then some ((ls.map PV.str).any fun y=>PyData.eqv (toD y) (toD (.str x))) else none)=_
 rw [if_pos ⟨ok_str [] hx,all_ok hl⟩,any_eqv hx hl]
theorem inB_l{x:List Nat}{ls:List (List Nat)}(hx:∀ c∈x,c<1114112)(hl:∀ l∈ls,∀ c∈l,c<1114112)(h:List L3.PO):pInB (.str x) (.lst (ls.map PV.str)) h=some (decide (x∈ls)):=by
 show (if okD [] (.str x)=true∧(ls.map PV.str).all (okD [])=true then some ((ls.map PV.str).any fun y=>PyData.eqv (toD y) (toD (.str x))) else none)=_
 rw [if_pos ⟨ok_str [] hx,all_ok hl⟩,any_eqv hx hl]
theorem nin_t{x:List Nat}{ls:List (List Nat)}(hx:∀ c∈x,c<1114112)(hl:∀ l∈ls,∀ c∈l,c<1114112)(h:List L3.PO):pNotIn (.str x) (.tup (ls.map PV.str)) h= .ok (.bl (!decide (x∈ls))) h:=by unfold pNotIn;rw [inB_t hx hl]
theorem in_l{x:List Nat}{ls:List (List Nat)}(hx:∀ c∈x,c<1114112)(hl:∀ l∈ls,∀ c∈l,c<1114112)(h:List L3.PO):pIn (.str x) (.lst (ls.map PV.str)) h= .ok (.bl (decide (x∈ls))) h:=by unfold pIn;rw [inB_l hx hl]
theorem toDs_strs:∀ {ls:List (List Nat)},(∀ l∈ls,∀ c∈l,c<1114112)→PyData.canLayAll0 (toDs (ls.map PV.str))=true∧PyData.depthAll (toDs (ls.map PV.str))≤1
 | [],_=>by simp [toDs,PyData.canLayAll0,PyData.depthAll]
 | l::r,h=>by
  have ih:=toDs_strs fun z hz=>h z (List.mem_cons_of_mem _ hz)
  have h1:∀ c∈l,c<1114112:=h l (by simp)
  have h2:PyData.canLay0 (toD (.str l))=true:=by
   have:=ok_str [] h1
   unfold okD at this
   exact ((Bool.and_eq_true _ _).mp this).1
  have h3:PyData.depth (toD (.str l))≤1:=by simp [toD,PyData.depth]
  rw [List.map_cons]
  simp only [toDs,PyData.canLayAll0,PyData.depthAll,h2,ih.1,Bool.and_self,true_and]
  omega
theorem eq_nil{ls:List (List Nat)}(hl:∀ l∈ls,∀ c∈l,c<1114112)(h:List L3.PO):pEq (.lst (ls.map PV.str)) (.lst []) h= .ok (.bl ls.isEmpty) h:=by
 have ok:okD h (.lst (ls.map PV.str))=true:=by
  unfold okD dOf
  have:=toDs_strs hl
  simp only [toD,PyData.canLay0,PyData.depth,this.1,Bool.true_and,decide_eq_true_eq]
  omega
 unfold pEq
 rw [if_pos ⟨ok,rfl⟩]
 cases ls with
 | nil=>rfl
 | cons a r=>rfl
end L3
namespace L3
open PySem L2
section
variable (ρ:Ev) (h:List PO)
theorem ev_callX(fn:List PV→OutX)(as:Ax):cCallX fn as ρ h=(as ρ h).bind (callX fn):=id rfl
theorem callX_def(fn:List PV→OutX)(ps:List PV):callX fn ps h=match frzs ps h with | some (qs,h2)=>(match fn qs with | .ok v=>.ok v h2 | .exc C=>.exc (.cls C) h2 | .bad=>.bad) | none=>.bad:=id rfl
theorem ev_sTry(cat:Nat→Bool)(g:Sx)(i n:Nat)(gs:Sx):sTry cat g i n gs ρ h=match g ρ h with
 | .exc (.cls C) h1=>if cat C=true then (match gs ((List.replicate n none).set i (some (.exc C))) h1 with
  | .rt v h2=>.rt v h2
  | _=>.bad) else .bad
 | .exc _ _=>.bad
 | r=>r:=id rfl
theorem ev_sRaise(C:Nat)(as:Ax):sRaise C as ρ h=match as ρ h with
 | .ok qs h1=>if qs.length≤sizeLine then .exc (.cls C) h1 else .bad
 | .exc e h1=>.exc e h1
 | .bad=>.bad:=id rfl
theorem eThen_exc(e:PV)(k:PV→List PO→SR):eThen (.exc e h) k= .exc e h:=id rfl
theorem frz_exc(C:Nat):frzV h (.exc C)=some (.exc C,h):=by simp [frzV,PV.pure]
end
end L3
namespace L3
open PySem L2
section
variable (ρ:Ev) (h:List PO)
theorem ev_fz(f:Ex):cFz f ρ h=(f ρ h).bind fzR:=id rfl
theorem ev_newD:cNewD ρ h= .ok (.ref h.length) (h++ [.dct []]):=id rfl
theorem ev_setD(fo fi fv:Ex):sSetD fo fi fv ρ h=eThen (fv ρ h) fun v h1=>eThen (fo ρ h1) fun o h2=>eThen (fi ρ h2) fun i h3=>setDR v o i ρ h3:=id rfl
theorem ev_aSeqD(f:Ex):aSeqD f ρ h=(f ρ h).bind seqItD:=id rfl
theorem ev_vals(f:Ex):cVals f ρ h=(f ρ h).bind valsR:=id rfl
theorem ev_pop(fo fk:Ex):cPop fo fk ρ h=(fo ρ h).bind fun p h1=>if (liveD h1 p).isSome=true then (fk ρ h1).bind fun q h2=>popR p q h2 else .bad:=id rfl
theorem seqD_d(kps:List (PK×PV)):seqItD (.dct kps) h= .ok (kps.map fun p=>keyPV p.1) h:=id rfl
theorem seqD_t(l:List PV):seqItD (.tup l) h= .ok l h:=id rfl
theorem vals_d(kps:List (PK×PV)):valsR (.dct kps) h= .ok (.lst (kps.map (·.2))) h:=id rfl
theorem len_d(l:List (PK×PV)):pLen [.dct l] h= .ok (.int l.length) h:=id rfl
theorem dictM_d(l:List (PK×PV)):pDictM [.dct l] h= .ok (.ref h.length) (h++ [.dct l]):=id rfl
theorem ix_ds(l:List (PK×PV))(x:List Nat):pIx (.dct l) (.str x) h=match valP l (.inr x) with | some v=>.ok (derefP h v) h | none=>.bad:=id rfl
theorem ix_di(l:List (PK×PV))(x:Int):pIx (.dct l) (.int x) h=match valP l (.inl x) with | some v=>.ok (derefP h v) h | none=>.bad:=id rfl
theorem in_ds(l:List (PK×PV))(x:List Nat):pNotIn (.str x) (.dct l) h= .ok (.bl (!(valP l (.inr x)).isSome)) h:=id rfl
theorem addE_ii(i j:Int):pAddE (.int i) (.int j) h= .ok (.int (i+j)) h:=id rfl
theorem addE_ss(a b:List Nat):pAddE (.str a) (.str b) h=if a.length+b.length≤sizeLine then .ok (.str (a++b)) h else .bad:=id rfl
theorem dr_d0(l:List (PK×PV))(r:List PO):derefP (.dct l::r) (.ref 0)= .ref 0:=id rfl
theorem dr_z0(p:PV)(r:List PO):derefP (.froz p::r) (.ref 0)=p:=id rfl
theorem dr_d1(a:PO)(l:List (PK×PV))(r:List PO):derefP (a::.dct l::r) (.ref 1)= .ref 1:=id rfl
theorem fz_d0{l:List (PK×PV)}(r:List PO)(hp:pureks l=true):fzR (.ref 0) (.dct l::r)= .ok (.dct l) (.froz (.dct l)::r):=by
 simp [fzR,fzP,liveD,hp]
theorem fz_d1{l:List (PK×PV)}(a:PO)(r:List PO)(hp:pureks l=true):fzR (.ref 1) (a::.dct l::r)= .ok (.dct l) (a::.froz (.dct l)::r):=by
 simp [fzR,fzP,liveD,hp]
theorem frz_pure{p:PV}(hp:p.pure=true):frzV h p=some (p,h):=by
 cases p<;>first | (simp [PV.pure] at hp;done) | simp [frzV,hp]
theorem dr_pure{p:PV}(hp:p.pure=true):derefP h p=p:=by
 cases p<;>first | (simp [PV.pure] at hp;done) | rfl
theorem fz_pure{p:PV}(hp:p.pure=true):fzR p h= .ok p h:=by
 have e:liveD h p=none:=by cases p<;>first | (simp [PV.pure] at hp;done) | rfl
 simp [fzR,fzP,e,frz_pure h hp]
theorem set_d0(v:PV)(l:List (PK×PV))(r:List PO)(x:List Nat):setDR v (.ref 0) (.str x) ρ (.dct l::r)=if l.length<sizeLine then .nx ρ (.dct (putP l (.inr x) v)::r) else .bad:=id rfl
theorem set_d1(v:PV)(a:PO)(l:List (PK×PV))(r:List PO)(x:List Nat):setDR v (.ref 1) (.str x) ρ (a::.dct l::r)=if l.length<sizeLine then .nx ρ (a::.dct (putP l (.inr x) v)::r) else .bad:=id rfl
theorem ix_d0(l:List (PK×PV))(r:List PO)(x:List Nat):pIx (.ref 0) (.str x) (.dct l::r)=match valP l (.inr x) with | some v=>.ok (derefP (.dct l::r) v) (.dct l::r) | none=>.bad:=id rfl
theorem len_d0(l:List (PK×PV))(r:List PO):pLen [.ref 0] (.dct l::r)= .ok (.int l.length) (.dct l::r):=id rfl
theorem sorted_d{l:List (PK×PV)}{ks:List (List Nat)}(e:strKs l=some ks)(hk:ks.length<64):pSorted [.dct l] h= .ok (.lst ((sortL ks).map PV.str)) h:=by
 show (match strKs l with | some ks=>if ks.length<64 then Res.ok (PV.lst ((sortL ks).map PV.str)) h else .bad | none=>.bad)=_
 rw [e]
 exact if_pos hk
theorem sorted_d0{l:List (PK×PV)}{ks:List (List Nat)}(r:List PO)(e:strKs l=some ks)(hk:ks.length<64):pSorted [.ref 0] (.dct l::r)= .ok (.lst ((sortL ks).map PV.str)) (.dct l::r):=by
 show (match strKs l with | some ks=>if ks.length<64 then Res.ok (PV.lst ((sortL ks).map PV.str)) (.dct l::r) else .bad | none=>.bad)=_
 rw [e]
 exact if_pos hk
theorem live0(l:List (PK×PV))(r:List PO):(liveD (.dct l::r) (.ref 0)).isSome=true:=id rfl
theorem live1(a:PO)(l:List (PK×PV))(r:List PO):(liveD (a::.dct l::r) (.ref 1)).isSome=true:=id rfl
theorem pop_d0{l:List (PK×PV)}{x:List Nat}{v:PV}(r:List PO)(e:valP l (.inr x)=some v):popR (.ref 0) (.str x) (.dct l::r)= .ok v (.dct (dropP l (.inr x))::r):=by
 show (match valP l (.inr x) with | some v=>Res.ok v (.dct (dropP l (.inr x))::r) | none=>.bad)=_
 rw [e]
theorem pop_d1{l:List (PK×PV)}{x:List Nat}{v:PV}(a:PO)(r:List PO)(e:valP l (.inr x)=some v):popR (.ref 1) (.str x) (a::.dct l::r)= .ok v (a::.dct (dropP l (.inr x))::r):=by
 show (match valP l (.inr x) with | some v=>Res.ok v (a::.dct (dropP l (.inr x))::r) | none=>.bad)=_
 rw [e]
end
theorem valP_mem{kvs:List (PK×PV)}(nd:(kvs.map (·.1)).Nodup){k:PK}{v:PV}(h:(k,v)∈kvs):valP kvs k=some v:=by
 unfold valP
 induction kvs with
 | nil=>simp at h
 | cons p r ih=>
  rw [List.map_cons,List.nodup_cons] at nd
  rw [List.find?_cons]
  by_cases e:p.1=k
  ·rw [decide_eq_true e]
   rcases List.mem_cons.mp h with z | z
   ·rw [← z];rfl
   ·exact absurd (List.mem_map.mpr ⟨_,z,e.symm⟩) nd.1
  ·rw [decide_eq_false e]
   rcases List.mem_cons.mp h with z | z
   ·rw [← z] at e;exact absurd rfl e
   ·exact ih nd.2 z
theorem valP_some{kvs:List (PK×PV)}{k:PK}:(valP kvs k).isSome=true↔k∈kvs.map (·.1):=by
 unfold valP
 rw [Option.isSome_map,List.find?_isSome]
 simp
theorem valP_in{kvs:List (PK×PV)}{k:PK}{v:PV}(h:valP kvs k=some v):(k,v)∈kvs:=by
 unfold valP at h
 rw [Option.map_eq_some_iff] at h
 obtain ⟨p,e,rfl⟩:=h
 have a:=List.find?_some e
 have b:=List.mem_of_find?_eq_some e
 simp only [decide_eq_true_eq] at a
 rw [← a];exact b
theorem putP_new{kvs:List (PK×PV)}{k:PK}{v:PV}(h:k∉kvs.map (·.1)):putP kvs k v=kvs++ [(k,v)]:=by
 unfold putP
 rw [if_neg]
 intro z
 rw [List.any_eq_true] at z
 obtain ⟨p,hp,e⟩:=z
 simp only [decide_eq_true_eq] at e
 exact h (List.mem_map.mpr ⟨p,hp,e⟩)
theorem putP_old{kvs:List (PK×PV)}{k:PK}{v:PV}(h:k∈kvs.map (·.1)):putP kvs k v=kvs.map (fun kv=>if kv.1=k then (kv.1,v) else kv):=by
 unfold putP
 rw [if_pos]
 rw [List.any_eq_true]
 obtain ⟨p,hp,e⟩:=List.mem_map.mp h
 exact ⟨p,hp,by simpa using e⟩
theorem putP_keys{kvs:List (PK×PV)}{k:PK}{v:PV}(h:k∈kvs.map (·.1)):(putP kvs k v).map (·.1)=kvs.map (·.1):=by
 rw [putP_old h,List.map_map]
 refine List.map_congr_left fun p _=>?_
 simp only [Function.comp]
 split
 ·rfl
 ·rfl
theorem putP_mem{kvs:List (PK×PV)}{k:PK}{v:PV}(h:k∈kvs.map (·.1)):(k,v)∈putP kvs k v:=by
 rw [putP_old h]
 obtain ⟨p,hp,rfl⟩:=List.mem_map.mp h
 exact List.mem_map.mpr ⟨p,hp,by simp⟩
theorem putP_vals{kvs:List (PK×PV)}{k:PK}{v:PV}(h:k∈kvs.map (·.1)){p:PK×PV}(hp:p∈putP kvs k v):p∈kvs∨p.2=v:=by
 rw [putP_old h] at hp
 obtain ⟨q,hq,rfl⟩:=List.mem_map.mp hp
 split
 ·exact .inr rfl
 ·exact .inl hq
end L3
namespace L3
open PySem L2
variable {m:Nat} {raw letters:List Nat}
end L3
namespace L3
open PySem L2
open PySem.NumText (digitsVal AllDigits)
end L3
namespace L3
open PySem L2
end L3
noncomputable section
namespace K4
open PySem PySem.Spec PyProof.Rows L2 L3
def top(i:Nat):Stmt:=PySem.Challenge.pw_formsmith_k04_names_and_values.main.body.getD i (.Pass ⟨0,0,0,0⟩)
def tv_COMMAND_WORDS:List (List Nat):= [[97,115],[98,101,116,119,101,101,110],[98,111,100,121],[101,108,115,101],[101,110,100],[102,111,114],[105,102],[105,110],[112,105,101,99,101],[117,115,101],[119,105,116,104]]
def q_9f985e:List Nat:= [116,104,101,32,118,97,108,117,101,115,32,97,114,101,32,110,111,32,100,105,99,116]
def q_c3fcd3:List Nat:= [97,98,99,100,101,102,103,104,105,106,107,108,109,110,111,112,113,114,115,116,117,118,119,120,121,122]
def q_cff11f:List Nat:= [97,32,110,97,109,101,32,104,97,115,32,110,111,32,118,97,108,117,101]
def q_d08fa1:List Nat:= [10,32,33,34,35,36,38,39,40,41,42,43,44,45,46,47,48,49,50,51,52,53,54,55,56,57,58,59,60,61,62,63,64,65,66,67,68,69,70,71,72,73,74,75,76,77,78,79,80,81,82,83,84,85,86,87,88,89,90,91,92,93,94,95,96]
def q_dae21e:List Nat:= [97,98,99,100,101,102,103,104,105,106,107,108,109,110,111,112,113,114,115,116,117,118,119,120,121,122,123,124,125,126]
def q_e84fa8:List Nat:= [10,32,33,34,35,36,38,39,40,41,42,43,44,45,46,47,48,49,50,51,52,53,54,55,56,57,58,59,60,61,62,63,64,65,66,67,68,69,70,71,72,73,74,75,76,77,78,79,80,81,82,83,84,85,86,87,88,89,90,91,92,93,94,95,96,97,98,99,100,101,102,103,104,105,106,107,108,109,110,111,112,113,114,115,116,117,118,119,120,121,122,123,124,125,126]
def q_f68957:List Nat:= [116,104,101,114,101,32,105,115,32,97,32,118,97,108,117,101,32,102,111,114,32,110,111,32,110,97,109,101]
def q_ff0c87:List Nat:= [119,104,97,116,32,97,32,110,97,109,101,32,104,97,115,32,105,115,32,110,111,32,118,97,108,117,101]
inductive Fn where
 | law | l_names_right | l_value_by | l_deepest | l_needed | l_refused | l_mixed | l_looks | l_cell_at | l_name_by | l_odd_name | l_is | is_text | is_path | is_name | l_signs | need_values | l_class | l_spoilt | is_value | l_fields | looked_up | l_looked | is_made_of | l_bad | is_value_within | copied | found | is_short_number | is_record_within | are_values_within
abbrev CC:=Fn→List PV→Out
def stOf:Fn→Stmt
 | .law=>top 54
 | .l_names_right=>top 51
 | .l_value_by=>top 43
 | .l_deepest=>top 44
 | .l_needed=>top 49
 | .l_refused=>top 53
 | .l_mixed=>top 38
 | .l_looks=>top 52
 | .l_cell_at=>top 36
 | .l_name_by=>top 41
 | .l_odd_name=>top 42
 | .l_is=>top 50
 | .is_text=>top 17
 | .is_path=>top 19
 | .is_name=>top 18
 | .l_signs=>top 37
 | .need_values=>top 34
 | .l_class=>top 40
 | .l_spoilt=>top 46
 | .is_value=>top 26
 | .l_fields=>top 48
 | .looked_up=>top 31
 | .l_looked=>top 47
 | .is_made_of=>top 20
 | .l_bad=>top 45
 | .is_value_within=>top 27
 | .copied=>top 33
 | .found=>top 32
 | .is_short_number=>top 28
 | .is_record_within=>top 29
 | .are_values_within=>top 30
def nsOf:Fn→List Str
 | .law=> ["_law_script","_law_names","_law_values","_law_k","_law_kept","_law_name"]
 | .l_names_right=> ["_law_script","_law_name","_law_odd","_law_cell","_law_path","_law_at","_law_bad_here","_law_text","_law_place","_law_other"]
 | .l_value_by=> ["_law_cell","_law_deep","_law_kind","_law_more","_law_many","_law_found","_law_k","_law_field"]
 | .l_deepest=> ["_law_cell","_law_some"]
 | .l_needed=> ["_law_names","_law_values","_law_e"]
 | .l_refused=> ["_law_names","_law_values","_law_cell","_law_bad_here","_law_name","_law_more"]
 | .l_mixed=> ["_law_cell","_law_k"]
 | .l_looks=> ["_law_value","_law_cell","_law_fields_here","_law_found","_law_due"]
 | .l_cell_at=> ["_law_script","_law_k"]
 | .l_name_by=> ["_law_cell","_law_some","_law_told","_law_size","_law_word"]
 | .l_odd_name=> ["_law_cell","_law_told","_law_name","_law_at","_law_sign","_law_some"]
 | .l_is=> ["_law_found","_law_due"]
 | .is_text=> ["thing","most"]
 | .is_path=> ["thing"]
 | .is_name=> ["thing"]
 | .l_signs=> ["_law_some"]
 | .need_values=> ["names","values","name"]
 | .l_class=> ["_law_e","_law_mine","_law_word"]
 | .l_spoilt=> ["_law_value","_law_cell","_law_deep","_law_at","_law_found","_law_name"]
 | .is_value=> ["thing"]
 | .l_fields=> ["_law_value","_law_cell","_law_found","_law_name"]
 | .looked_up=> ["value","fields"]
 | .l_looked=> ["_law_value","_law_fields_here","_law_found","_law_field"]
 | .is_made_of=> ["text","allowed","sign"]
 | .l_bad=> ["_law_cell","_law_deep","_law_deeper","_law_many","_law_k","_law_some","_law_told"]
 | .is_value_within=> ["thing","depth"]
 | .copied=> ["value","record","field"]
 | .found=> ["value","fields","here","field"]
 | .is_short_number=> ["number"]
 | .is_record_within=> ["record","depth","field"]
 | .are_values_within=> ["things","depth","thing"]
def nmOf:Fn→Str
 | .law=>"law"
 | .l_names_right=>"_law_names_right"
 | .l_value_by=>"_law_value_by"
 | .l_deepest=>"_law_deepest"
 | .l_needed=>"_law_needed"
 | .l_refused=>"_law_refused"
 | .l_mixed=>"_law_mixed"
 | .l_looks=>"_law_looks"
 | .l_cell_at=>"_law_cell_at"
 | .l_name_by=>"_law_name_by"
 | .l_odd_name=>"_law_odd_name"
 | .l_is=>"_law_is"
 | .is_text=>"is_text"
 | .is_path=>"is_path"
 | .is_name=>"is_name"
 | .l_signs=>"_law_signs"
 | .need_values=>"need_values"
 | .l_class=>"_law_class"
 | .l_spoilt=>"_law_spoilt"
 | .is_value=>"is_value"
 | .l_fields=>"_law_fields"
 | .looked_up=>"looked_up"
 | .l_looked=>"_law_looked"
 | .is_made_of=>"is_made_of"
 | .l_bad=>"_law_bad"
 | .is_value_within=>"is_value_within"
 | .copied=>"copied"
 | .found=>"found"
 | .is_short_number=>"is_short_number"
 | .is_record_within=>"is_record_within"
 | .are_values_within=>"are_values_within"
def qlOf(f:Fn):Str:=nmOf f
inductive Nt where
 | ValueError | abs | all | bool | dict | int | isinstance | len | list | range | repr | sorted | str | tuple
def ntOf:Nt→Str
 | .ValueError=>"ValueError"
 | .abs=>"abs"
 | .all=>"all"
 | .bool=>"bool"
 | .dict=>"dict"
 | .int=>"int"
 | .isinstance=>"isinstance"
 | .len=>"len"
 | .list=>"list"
 | .range=>"range"
 | .repr=>"repr"
 | .sorted=>"sorted"
 | .str=>"str"
 | .tuple=>"tuple"
def psOf:Fn→List Str
 | .law=> ["_law_script"]
 | .l_names_right=> ["_law_script"]
 | .l_value_by=> ["_law_cell","_law_deep"]
 | .l_deepest=> ["_law_cell"]
 | .l_needed=> ["_law_names","_law_values"]
 | .l_refused=> ["_law_names","_law_values","_law_cell"]
 | .l_mixed=> ["_law_cell","_law_k"]
 | .l_looks=> ["_law_value","_law_cell"]
 | .l_cell_at=> ["_law_script","_law_k"]
 | .l_name_by=> ["_law_cell"]
 | .l_odd_name=> ["_law_cell"]
 | .l_is=> ["_law_found","_law_due"]
 | .is_text=> ["thing","most"]
 | .is_path=> ["thing"]
 | .is_name=> ["thing"]
 | .l_signs=> []
 | .need_values=> ["names","values"]
 | .l_class=> ["_law_e"]
 | .l_spoilt=> ["_law_value","_law_cell","_law_deep"]
 | .is_value=> ["thing"]
 | .l_fields=> ["_law_value","_law_cell"]
 | .looked_up=> ["value","fields"]
 | .l_looked=> ["_law_value","_law_fields_here"]
 | .is_made_of=> ["text","allowed"]
 | .l_bad=> ["_law_cell"]
 | .is_value_within=> ["thing","depth"]
 | .copied=> ["value"]
 | .found=> ["value","fields"]
 | .is_short_number=> ["number"]
 | .is_record_within=> ["record","depth"]
 | .are_values_within=> ["things","depth"]
def kd_:Nat→Option Bool
 | 3=>some true
 | _=>none
def tC_:List (Nat×Nat×Bool):= [(3,7,false),(3,6,false),(3,2,false),(3,3,true),(3,1,false),(3,5,false),(3,9,false),(3,4,false),(3,8,false)]
def sC_:Nat→Nat→Option Bool:=lookT tC_
def sT_:Nat→String→Option Bool
 | 3,"ValueError"=>some true
 | _,_=>none
def cat_FormError:Nat→Bool
 | 3=>true
 | _=>false
inductive Fx where
 | need_values
inductive Fh where
 | l_class
def xFn:Fx→Fn
 | .need_values=>.need_values
def hFn:Fh→Fn
 | .l_class=>.l_class
def exs_:Nat→Bool
 | 3=>true
 | _=>false
def h_l_class:Sx:=
 (sSeq (sSet 1 (cN pLstM (aCons (cN (pIsC kd_ sC_ sT_) (aCons (cVar 0) (aCons (cK (.cls 1)) aNil))) (aCons (cN (pIsC kd_ sC_ sT_) (aCons (cVar 0) (aCons (cK (.cls 2)) aNil))) (aCons (cN (pIsC kd_ sC_ sT_) (aCons (cVar 0) (aCons (cK (.cls 3)) aNil))) (aCons (cN (pIsC kd_ sC_ sT_) (aCons (cVar 0) (aCons (cK (.cls 6)) aNil))) aNil))))))
  (sSeq (sSet 1 (c2 pAddM (cVar 1) (cN pLst (aCons (cN (pIsC kd_ sC_ sT_) (aCons (cVar 0) (aCons (cK (.cls 7)) aNil))) (aCons (cN (pIsC kd_ sC_ sT_) (aCons (cVar 0) (aCons (cK (.cls 4)) aNil))) (aCons (cN (pIsC kd_ sC_ sT_) (aCons (cVar 0) (aCons (cK (.cls 8)) aNil))) (aCons (cN (pIsC kd_ sC_ sT_) (aCons (cVar 0) (aCons (cK (.cls 9)) aNil))) aNil)))))))
  (sSeq (sDrop (cM isLst pAppend (cVar 1) (aCons (cN (pIsC kd_ sC_ sT_) (aCons (cVar 0) (aCons (cK (.cls 5)) aNil))) aNil)))
  (sSeq (sIf (tOrE (tCmpE (c2 pNe (cM isLst pCountB (cVar 1) (aCons (cK (.bl true)) aNil)) (cK (.int 1)))) (tNotE (tTruE (cN (pIsC kd_ sC_ sT_) (aCons (cVar 0) (aCons (cK (.ty "ValueError")) aNil)))))) (sRet (cN pLst (aCons (cK (.str [111,116,104,101,114])) aNil))) sNil)
  (sSeq (sSet 2 (c2 pIx (cN pLst (aCons (cK (.str [119,97,121])) (aCons (cK (.str [118,97,108,117,101])) (aCons (cK (.str [118,97,108,117,101,115])) (aCons (cK (.str [116,101,120,116])) (aCons (cK (.str [110,97,109,101])) (aCons (cK (.str [109,97,110,121])) (aCons (cK (.str [117,110,99,108,101,97,114])) (aCons (cK (.str [102,105,108,108])) (aCons (cK (.str [99,108,97,115,104])) aNil)))))))))) (cM isLst pIndexB (cVar 1) (aCons (cK (.bl true)) aNil))))
  (sSeq (sIf (tCmpE (c2 pIn (cVar 2) (cN pTup (aCons (cK (.str [116,101,120,116])) (aCons (cK (.str [110,97,109,101])) (aCons (cK (.str [117,110,99,108,101,97,114])) (aCons (cK (.str [102,105,108,108])) aNil))))))) (sRet (cN pLst (aCons (cVar 2) (aCons cBad aNil)))) sNil)
  (sRet (cN pLst (aCons (cVar 2) aNil)))))))))
def FH:Fh→List PV→Out
 | .l_class,ps=>runF h_l_class 1 3 ps
def w_need_values_x_1(C:CC):Sx:=(sIf (tCmpE (c2 pNotIn (cVar 2) (cVar 1))) (sRaise 3 (aCons (cK (.str q_cff11f)) aNil)) sNil)
def w_need_values_x_2(C:CC):Sx:=(sSeq (sIf (tCmpE (c2 pNotIn (cVar 2) (cVar 0))) (sRaise 3 (aCons (cK (.str q_f68957)) aNil)) sNil)
  (sIf (tNotE (tTruE (cCall (C .is_value) (aCons (c2 pIx (cVar 1) (cVar 2)) aNil)))) (sRaise 3 (aCons (cK (.str q_ff0c87)) aNil)) sNil))
def x_need_values(C:CC):Sx:=
 (sSeq (sIf (tNotE (tTruE (cN pIsinst (aCons (cVar 1) (aCons (cK (.ty "dict")) aNil))))) (sRaise 3 (aCons (cK (.str q_9f985e)) aNil)) sNil)
  (sSeq (sFor (aSeqD (cVar 0)) (gNm 2) (w_need_values_x_1 C))
  (sFor (aSeqD (cVar 1)) (gNm 2) (w_need_values_x_2 C))))
def XO(C:CC):Fx→List PV→OutX
 | .need_values,ps=>onlyX exs_ (runX (x_need_values C) 2 3 ps)
def w_law_1(C:CC):Sx:=(sSetD (cVar 2) (c2 pIx (cVar 1) (cVar 3)) (cCall (C .l_value_by) (aCons (cCall (C .l_mixed) (aCons (cCall (C .l_cell_at) (aCons (cVar 0) (aCons (c2 pAdd (cK (.int 4)) (cVar 3)) aNil))) (aCons (cVar 3) aNil))) (aCons (cK (.int 6)) aNil))))
def w_law_2(C:CC):Sx:=(sIf (tNotE (tTruE (cCall (C .l_looks) (aCons (c2 pIx (cVar 2) (cVar 5)) (aCons (cCall (C .l_mixed) (aCons (cCall (C .l_cell_at) (aCons (cVar 0) (aCons (cK (.int 8)) aNil))) (aCons (cK (.int 4)) aNil))) aNil))))) (sRet (cK (.bl false))) sNil)
def b_law(C:CC):Sx:=
 (sSeq (sIf (tNotE (tTruE (cCall (C .l_names_right) (aCons (cVar 0) aNil)))) (sRet (cK (.bl false))) sNil)
  (sSeq (sSet 1 (cSl (cN pLst (aCons (cK (.str [97])) (aCons (cK (.str [98,98])) (aCons (cK (.str [97,98,99])) (aCons (cK (.str [120])) aNil))))) oNone (oSome (c2 pMod (cCall (C .l_cell_at) (aCons (cVar 0) (aCons (cK (.int 3)) aNil))) (cK (.int 5))))))
  (sSeq (sSet 2 cNewD)
  (sSeq (sFor (aRange1 (aCons (cN pLen (aCons (cVar 1) aNil)) aNil)) (gNm 3) (w_law_1 C))
  (sSeq (sIf (tAndE (tCmpE (c2 pNe (cVar 1) (cN pLst aNil))) (tCmpE (c2 pEq (c2 pMod (c2 pDiv (cCall (C .l_cell_at) (aCons (cVar 0) (aCons (cK (.int 3)) aNil))) (cK (.int 5))) (cK (.int 3))) (cK (.int 1))))) (sSetD (cVar 2) (c2 pIx (cVar 1) (cK (.int 0))) (cCall (C .l_deepest) (aCons (c2 pDiv (cCall (C .l_cell_at) (aCons (cVar 0) (aCons (cK (.int 3)) aNil))) (cK (.int 15))) aNil))) sNil)
  (sSeq (sSet 4 (cN pReprD (aCons (cFz (cVar 2)) aNil)))
  (sSeq (sFor (aSeq (cVar 1)) (gNm 5) (w_law_2 C))
  (sSeq (sIf (tCmpE (c2 pNe (cCall (C .l_needed) (aCons (cN pTuple (aCons (cVar 1) aNil)) (aCons (cFz (cVar 2)) aNil))) (cN pTup (aCons (cK .non) aNil)))) (sRet (cK (.bl false))) sNil)
  (sSeq (sIf (tNotE (tTruE (cCall (C .l_refused) (aCons (cVar 1) (aCons (cFz (cVar 2)) (aCons (cCall (C .l_mixed) (aCons (cCall (C .l_cell_at) (aCons (cVar 0) (aCons (cK (.int 9)) aNil))) (aCons (cK (.int 5)) aNil))) aNil)))))) (sRet (cK (.bl false))) sNil)
  (sRet (cAnd (c2 pEq (cCall (C .l_needed) (aCons (cN pTuple (aCons (cVar 1) aNil)) (aCons (cFz (cVar 2)) aNil))) (cN pTup (aCons (cK .non) aNil))) (c2 pEq (cN pReprD (aCons (cFz (cVar 2)) aNil)) (cVar 4)))))))))))))
def e_l_names_right_1(C:CC):Ex:=(cCall (C .l_name_by) (aCons (c2 pDiv (cVar 1) (c2 pAddE (cK (.int 1)) (cVar 0))) aNil))
def e_l_names_right_2(C:CC):Ex:=(c2 pIx (cCall (C .l_signs) aNil) (c2 pMod (cCall (C .l_mixed) (aCons (cVar 1) (aCons (cVar 0) aNil))) (cK (.int 95))))
def b_l_names_right(C:CC):Sx:=
 (sSeq (sSet 1 (cCall (C .l_name_by) (aCons (cCall (C .l_mixed) (aCons (cCall (C .l_cell_at) (aCons (cVar 0) (aCons (cK (.int 0)) aNil))) (aCons (cK (.int 1)) aNil))) aNil)))
  (sSeq (sSet 2 (cCall (C .l_odd_name) (aCons (cCall (C .l_mixed) (aCons (cCall (C .l_cell_at) (aCons (cVar 0) (aCons (cK (.int 1)) aNil))) (aCons (cK (.int 2)) aNil))) aNil)))
  (sSeq (sSet 3 (cCall (C .l_mixed) (aCons (cCall (C .l_cell_at) (aCons (cVar 0) (aCons (cK (.int 2)) aNil))) (aCons (cK (.int 3)) aNil))))
  (sSeq (sSet 4 (cN pTuple (aCons (cN okL (aComp [3] (aRange1 (aCons (c2 pAddE (cK (.int 1)) (c2 pMod (cVar 3) (cK (.int 4)))) aNil)) tYesE (e_l_names_right_1 C))) aNil)))
  (sSeq (sSet 5 (c2 pMod (c2 pDiv (cVar 3) (cK (.int 4))) (cN pLen (aCons (cVar 4) aNil))))
  (sSeq (sIf (tOrE (tNotE (tTruE (cCall (C .l_is) (aCons (cCall (C .is_name) (aCons (cVar 1) aNil)) (aCons (cK (.bl true)) aNil))))) (tOrE (tNotE (tTruE (cCall (C .l_is) (aCons (cCall (C .is_name) (aCons (cVar 2) aNil)) (aCons (cK (.bl false)) aNil))))) (tNotE (tTruE (cCall (C .l_is) (aCons (cCall (C .is_path) (aCons (cVar 4) aNil)) (aCons (cK (.bl true)) aNil))))))) (sRet (cK (.bl false))) sNil)
  (sSeq (sSet 6 (cN pLst (aCons (c2 pAddE (c2 pAddE (cSl (cVar 4) oNone (oSome (cVar 5))) (cN pTup (aCons (cVar 2) aNil))) (cSl (cVar 4) (oSome (c2 pAddE (cVar 5) (cK (.int 1)))) oNone)) (aCons (cN pTup aNil) (aCons (c2 pAddE (cVar 4) (cN pTup (aCons (cK (.str [97])) (aCons (cK (.str [98])) (aCons (cK (.str [99])) (aCons (cK (.str [100])) aNil)))))) (aCons (cN pList (aCons (cVar 4) aNil)) (aCons (cM isStr pJoinT (cK (.str [46])) (aCons (cVar 4) aNil)) (aCons (cK .non) aNil))))))))
  (sSeq (sIf (tNotE (tTruE (cCall (C .l_is) (aCons (cCall (C .is_path) (aCons (c2 pIx (cVar 6) (c2 pMod (c2 pDiv (cVar 3) (cK (.int 16))) (cK (.int 6)))) aNil)) (aCons (cK (.bl false)) aNil))))) (sRet (cK (.bl false))) sNil)
  (sSeq (sSet 7 (cM isStr pJoin (cK (.str [])) (aCons (cN okL (aComp [3] (aRange1 (aCons (c2 pMod (cVar 3) (cK (.int 9))) aNil)) tYesE (e_l_names_right_2 C))) aNil)))
  (sSeq (sIf (tOrE (tNotE (tTruE (cCall (C .l_is) (aCons (cCall (C .is_text) (aCons (cVar 7) (aCons (cN pLen (aCons (cVar 7) aNil)) aNil))) (aCons (cK (.bl true)) aNil))))) (tNotE (tTruE (cCall (C .l_is) (aCons (cCall (C .is_text) (aCons (c2 pAddE (cVar 7) (cK (.str [97]))) (aCons (cN pLen (aCons (cVar 7) aNil)) aNil))) (aCons (cK (.bl false)) aNil)))))) (sRet (cK (.bl false))) sNil)
  (sSeq (sSet 8 (c2 pMod (c2 pDiv (cVar 3) (cK (.int 9))) (c2 pAddE (cN pLen (aCons (cVar 7) aNil)) (cK (.int 1)))))
  (sSeq (sSet 9 (c2 pIx (cN pLst (aCons (c2 pAddE (c2 pAddE (cSl (cVar 7) oNone (oSome (cVar 8))) (cK (.str [9]))) (cSl (cVar 7) (oSome (cVar 8)) oNone)) (aCons (cK .non) (aCons (cK (.int 5)) (aCons (cN pLst (aCons (cVar 7) aNil)) (aCons (cK (.bl true)) aNil)))))) (c2 pMod (c2 pDiv (cVar 3) (cK (.int 90))) (cK (.int 5)))))
  (sRet (cCall (C .l_is) (aCons (cCall (C .is_text) (aCons (cVar 9) (aCons (cK (.int 400)) aNil))) (aCons (cK (.bl false)) aNil))))))))))))))))
def e_l_value_by_1(C:CC):Ex:=(cCall (C .l_value_by) (aCons (c2 pAdd (c2 pDiv (cVar 2) (c2 pAdd (cK (.int 1)) (cVar 0))) (cVar 0)) (aCons (c2 pSub (cVar 1) (cK (.int 1))) aNil)))
def w_l_value_by_2(C:CC):Sx:=(sSeq (sSet 7 (cSl (cK (.str [97,98,99,100,101,102,103,104])) (oSome (cVar 6)) (oSome (c2 pAdd (c2 pAdd (cVar 6) (cK (.int 1))) (c2 pMod (c2 pDiv (cVar 3) (cK (.int 3))) (cK (.int 3)))))))
  (sSetD (cVar 5) (cVar 7) (cCall (C .l_value_by) (aCons (c2 pAdd (c2 pDiv (cVar 3) (c2 pAdd (cK (.int 3)) (cVar 6))) (c2 pMul (cK (.int 5)) (cVar 6))) (aCons (c2 pSub (cVar 1) (cK (.int 1))) aNil)))))
def b_l_value_by(C:CC):Sx:=
 (sSeq (sSet 2 (c2 pMod (cVar 0) (cK (.int 7))))
  (sSeq (sSet 3 (cCall (C .l_mixed) (aCons (c2 pDiv (cVar 0) (cK (.int 7))) (aCons (cVar 1) aNil))))
  (sSeq (sIf (tCmpE (c2 pLt (cVar 1) (cK (.int 2)))) (sSet 2 (c2 pMod (cVar 2) (cK (.int 4)))) sNil)
  (sSeq (sIf (tCmpE (c2 pEq (cVar 2) (cK (.int 0)))) (sRet (c2 pIx (cN pLst (aCons (cK (.str [])) (aCons (c2 pMul (cK (.str [97])) (cK (.int 400))) (aCons (cK (.str [120,10,123])) (aCons (c2 pMul (cK (.str [98])) (c2 pMod (cVar 3) (cK (.int 400)))) aNil))))) (c2 pMod (cVar 3) (cK (.int 4))))) sNil)
  (sSeq (sIf (tCmpE (c2 pEq (cVar 2) (cK (.int 1)))) (sRet (c2 pIx (cN pLst (aCons (cK (.int 0)) (aCons (c2 pSub (c2 pPow (cK (.int 10)) (cK (.int 30))) (cK (.int 1))) (aCons (c2 pSub (cK (.int 1)) (c2 pPow (cK (.int 10)) (cK (.int 30)))) (aCons (cVar 3) aNil))))) (c2 pMod (cVar 3) (cK (.int 4))))) sNil)
  (sSeq (sIf (tCmpE (c2 pLt (cVar 2) (cK (.int 4)))) (sRet (c2 pEq (c2 pMod (cVar 3) (cK (.int 2))) (cK (.int 0)))) sNil)
  (sSeq (sIf (tCmpE (c2 pEq (cVar 2) (cK (.int 4)))) (sSeq (sSet 4 (c2 pIx (cN pLst (aCons (cK (.int 0)) (aCons (cK (.int 1)) (aCons (cK (.int 2)) (aCons (c2 pIx (cN pLst (aCons (cK (.int 2)) (aCons (cK (.int 40)) aNil))) (cN pInt (aCons (c2 pEq (cVar 1) (cK (.int 2))) aNil))) aNil))))) (c2 pMod (cVar 3) (cK (.int 4)))))
  (sRet (cN okL (aComp [1,3] (aRange1 (aCons (cVar 4) aNil)) tYesE (e_l_value_by_1 C))))) sNil)
  (sSeq (sSet 5 cNewD)
  (sSeq (sFor (aRange1 (aCons (c2 pIx (cN pLst (aCons (c2 pAdd (cK (.int 1)) (c2 pMod (cVar 3) (cK (.int 3)))) (aCons (cK (.int 8)) aNil))) (cN pInt (aCons (cAnd (c2 pEq (c2 pMod (cVar 3) (cK (.int 9))) (cK (.int 4))) (c2 pLt (cVar 1) (cK (.int 4)))) aNil))) aNil)) (gNm 6) (w_l_value_by_2 C))
  (sRet (cFz (cVar 5))))))))))))
def b_l_deepest(C:CC):Sx:=
 (sSeq (sSet 1 (cN pLst (aCons (cN pLst (aCons (cN pLst (aCons (cN pLst (aCons (cN pLst (aCons (cN pLst (aCons (cN pLst aNil) aNil)) aNil)) aNil)) aNil)) aNil)) (aCons (cDict [((cK (.str [97])),(cN pLst (aCons (cDict [((cK (.str [98])),(cN pLst (aCons (cDict [((cK (.str [97])),(cK (.dct [])))]) aNil)))]) aNil)))]) (aCons (cN pLst (aCons (cN pLst (aCons (cN pLst (aCons (cN pLst (aCons (cN pLst (aCons (cK (.dct [])) aNil)) aNil)) aNil)) aNil)) (aCons (cK (.int 5)) aNil))) (aCons (cDict [((cK (.str [120])),(cDict [((cK (.str [120])),(cDict [((cK (.str [120])),(cDict [((cK (.str [120])),(cN pLst (aCons (cN pLst aNil) aNil)))]))]))]))]) aNil))))))
  (sRet (c2 pIx (cVar 1) (c2 pMod (cVar 0) (cK (.int 4))))))
def b_l_needed(C:CC)(Z:Fx→List PV→OutX)(U:Fh→List PV→Out):Sx:=
 (sTry cat_FormError (sRet (cN pTup (aCons (cCallX (Z .need_values) (aCons (cVar 0) (aCons (cVar 1) aNil))) aNil))) 2 3 (sRet (cCall (U .l_class) (aCons (cVar 2) aNil))))
def b_l_refused(C:CC):Sx:=
 (sSeq (sSet 3 (c2 pIx (cN pLst (aCons (cK .non) (aCons (cN pLst aNil) (aCons (cN pDictM (aCons (cVar 1) aNil)) (aCons (cN pTuple (aCons (cVar 0) aNil)) (aCons (cK (.str [97,98])) aNil)))))) (c2 pMod (cVar 2) (cK (.int 5)))))
  (sSeq (sIf (tAndE (tCmpE (c2 pEq (c2 pMod (cVar 2) (cK (.int 5))) (cK (.int 2)))) (tCmpE (c2 pNe (cVar 0) (cN pLst aNil)))) (sSeq (sSet 4 (c2 pIx (cVar 0) (c2 pMod (c2 pDiv (cVar 2) (cK (.int 5))) (cN pLen (aCons (cVar 0) aNil)))))
  (sSeq (sSetD (cVar 3) (cVar 4) (cCall (C .l_spoilt) (aCons (c2 pIx (cVar 1) (cVar 4)) (aCons (c2 pDiv (cVar 2) (cK (.int 20))) (aCons (cK (.int 6)) aNil)))))
  (sSeq (sIf (tNotE (tTruE (cCall (C .l_is) (aCons (cCall (C .is_value) (aCons (c2 pIx (cVar 3) (cVar 4)) aNil)) (aCons (cK (.bl false)) aNil))))) (sRet (cK (.bl false))) sNil)
  (sIf (tCmpE (c2 pEq (c2 pMod (c2 pDiv (cVar 2) (cK (.int 11))) (cK (.int 4))) (cK (.int 1)))) (sDrop (cPop (cVar 3) (cVar 4))) sNil)))) (sIf (tCmpE (c2 pEq (c2 pMod (cVar 2) (cK (.int 5))) (cK (.int 2)))) (sSetD (cVar 3) (cK (.str [121])) (cK (.int 5))) sNil))
  (sSeq (sSet 5 (cN pDictM (aCons (cVar 1) aNil)))
  (sSeq (sSetD (cVar 5) (cK (.str [111,116,104,101,114])) (cK (.int 1)))
  (sSeq (sIf (tAndE (tCmpE (c2 pNe (cVar 0) (cN pLst aNil))) (tCmpE (c2 pEq (c2 pMod (c2 pDiv (cVar 2) (cK (.int 13))) (cK (.int 2))) (cK (.int 1))))) (sDrop (cPop (cVar 5) (c2 pIx (cVar 0) (c2 pMod (c2 pDiv (cVar 2) (cK (.int 26))) (cN pLen (aCons (cVar 0) aNil)))))) sNil)
  (sRet (cAnd (c2 pEq (cCall (C .l_needed) (aCons (cN pTuple (aCons (cVar 0) aNil)) (aCons (cFz (cVar 3)) aNil))) (cN pLst (aCons (cK (.str [118,97,108,117,101,115])) aNil))) (c2 pEq (cCall (C .l_needed) (aCons (cN pTuple (aCons (cVar 0) aNil)) (aCons (cFz (cVar 5)) aNil))) (cN pLst (aCons (cK (.str [118,97,108,117,101,115])) aNil))))))))))
def b_l_mixed(C:CC):Sx:=
 (sRet (c2 pMod (c2 pMul (c2 pAdd (c2 pAdd (cVar 0) (c2 pMul (c2 pMul (cK (.int 31)) (cVar 1)) (cVar 1))) (cK (.int 7))) (cK (.int 48271))) (cK (.int 2147483647))))
def b_l_looks(C:CC):Sx:=
 (sSeq (sSet 2 (cCall (C .l_fields) (aCons (cVar 0) (aCons (cVar 1) aNil))))
  (sSeq (sSet 3 (cCall (C .looked_up) (aCons (cVar 0) (aCons (cVar 2) aNil))))
  (sSeq (sSet 4 (cCall (C .l_looked) (aCons (cVar 0) (aCons (cVar 2) aNil))))
  (sSeq (sIf (tOrE (tNotE (tTruE (cCall (C .l_is) (aCons (cCall (C .is_value) (aCons (cVar 0) aNil)) (aCons (cK (.bl true)) aNil))))) (tOrE (tNotE (tTruE (cN pIsinst (aCons (cVar 3) (aCons (cK (.ty "tuple")) aNil))))) (tCmpE (c2 pNeS (cN pList (aCons (cVar 3) aNil)) (cVar 4))))) (sRet (cK (.bl false))) sNil)
  (sRet (cOr (c2 pEqS (cVar 4) (cN pLst aNil)) (c2 pEq (cN pIsinst (aCons (c2 pIx (cVar 3) (cK (.int 0))) (aCons (cK (.ty "bool")) aNil))) (cN pIsinst (aCons (c2 pIx (cVar 4) (cK (.int 0))) (aCons (cK (.ty "bool")) aNil))))))))))
def b_l_cell_at(C:CC):Sx:=
 (sSeq (sIf (tCmpE (c2 pLt (cVar 1) (cN pLen (aCons (cVar 0) aNil)))) (sRet (c2 pIx (cVar 0) (cVar 1))) sNil)
  (sRet (cK (.int 0))))
def e_l_name_by_1(C:CC):Ex:=(c2 pIx (cVar 1) (c2 pMod (c2 pDiv (cCall (C .l_mixed) (aCons (c2 pDiv (cVar 2) (cK (.int 8))) (aCons (cVar 0) aNil))) (cK (.int 3))) (cK (.int 26))))
def b_l_name_by(C:CC):Sx:=
 (sSeq (sSet 1 (cK (.str q_c3fcd3)))
  (sSeq (sSet 2 (cN pLst (aCons (cK (.str [97,115])) (aCons (cK (.str [98,101,116,119,101,101,110])) (aCons (cK (.str [98,111,100,121])) (aCons (cK (.str [101,108,115,101])) (aCons (cK (.str [101,110,100])) (aCons (cK (.str [102,111,114])) (aCons (cK (.str [105,102])) (aCons (cK (.str [105,110])) (aCons (cK (.str [112,105,101,99,101])) (aCons (cK (.str [117,115,101])) (aCons (cK (.str [119,105,116,104])) aNil)))))))))))))
  (sSeq (sSet 3 (c2 pAdd (cK (.int 1)) (c2 pMod (cVar 0) (cK (.int 8)))))
  (sSeq (sSet 4 (cM isStr pJoin (cK (.str [])) (aCons (cN okL (aComp [1,0] (aRange1 (aCons (cVar 3) aNil)) tYesE (e_l_name_by_1 C))) aNil)))
  (sSeq (sIf (tCmpE (c2 pIn (cVar 4) (cVar 2))) (sRet (cK (.str [120]))) sNil)
  (sRet (cVar 4)))))))
def b_l_odd_name(C:CC):Sx:=
 (sSeq (sSet 1 (cN pLst (aCons (cK (.str [97,115])) (aCons (cK (.str [98,101,116,119,101,101,110])) (aCons (cK (.str [98,111,100,121])) (aCons (cK (.str [101,108,115,101])) (aCons (cK (.str [101,110,100])) (aCons (cK (.str [102,111,114])) (aCons (cK (.str [105,102])) (aCons (cK (.str [105,110])) (aCons (cK (.str [112,105,101,99,101])) (aCons (cK (.str [117,115,101])) (aCons (cK (.str [119,105,116,104])) aNil)))))))))))))
  (sSeq (sSet 2 (cCall (C .l_name_by) (aCons (c2 pDiv (cVar 0) (cK (.int 32))) aNil)))
  (sSeq (sSet 3 (c2 pMod (c2 pDiv (cVar 0) (cK (.int 7))) (cN pLen (aCons (cVar 2) aNil))))
  (sSeq (sSet 4 (c2 pIx (cK (.str [65,48,32,95,46,123,10,45])) (c2 pMod (c2 pDiv (cVar 0) (cK (.int 32))) (cK (.int 8)))))
  (sSeq (sSet 5 (cN pLst (aCons (cK (.str [])) (aCons (cK .non) (aCons (cK (.int 5)) (aCons (cK (.bl true)) (aCons (cN pLst (aCons (cK (.str [97])) aNil)) (aCons (cN pTup (aCons (cK (.str [97])) aNil)) (aCons (cK (.dct [])) (aCons (cK (.str [97,98,99,100,101,102,103,104,105])) (aCons (c2 pAdd (c2 pAdd (cSl (cVar 2) oNone (oSome (cVar 3))) (cVar 4)) (cSl (cVar 2) (oSome (c2 pAdd (cVar 3) (cK (.int 1)))) oNone)) aNil)))))))))))
  (sRet (c2 pIx (c2 pAdd (cVar 1) (cVar 5)) (c2 pMod (cVar 0) (cK (.int 20))))))))))
def b_l_is(C:CC):Sx:=
 (sRet (cAnd (cN pIsinst (aCons (cVar 0) (aCons (cK (.ty "bool")) aNil))) (c2 pEq (cVar 0) (cVar 1))))
def b_is_text(C:CC):Sx:=
 (sRet (cAnd (cN pIsinst (aCons (cVar 0) (aCons (cK (.ty "str")) aNil))) (cAnd (c2 pLe (cN pLen (aCons (cVar 0) aNil)) (cVar 1)) (cCall (C .is_made_of) (aCons (cVar 0) (aCons (cK (.str q_e84fa8)) aNil))))))
def e_is_path_1(C:CC):Ex:=(cCall (C .is_name) (aCons (cVar 0) aNil))
def b_is_path(C:CC):Sx:=
 (sSeq (sIf (tOrE (tNotE (tTruE (cN pIsinst (aCons (cVar 0) (aCons (cK (.ty "tuple")) aNil))))) (tNotE (tCmpE (cChain pLe pLe (cK (.int 1)) (cN pLen (aCons (cVar 0) aNil)) (cK (.int 4)))))) (sRet (cK (.bl false))) sNil)
  (sRet (cN pAll (aCons (cN okL (aComp [] (aSeq (cVar 0)) tYesE (e_is_path_1 C))) aNil))))
def b_is_name(C:CC):Sx:=
 (sSeq (sIf (tOrE (tNotE (tTruE (cN pIsinst (aCons (cVar 0) (aCons (cK (.ty "str")) aNil))))) (tNotE (tCmpE (cChain pLe pLe (cK (.int 1)) (cN pLen (aCons (cVar 0) aNil)) (cK (.int 8)))))) (sRet (cK (.bl false))) sNil)
  (sRet (cAnd (cCall (C .is_made_of) (aCons (cVar 0) (aCons (cK (.str q_c3fcd3)) aNil))) (c2 pNotIn (cVar 0) (cK (.tup (tv_COMMAND_WORDS.map PV.str)))))))
def b_l_signs(C:CC):Sx:=
 (sSeq (sSet 0 (cK (.str q_d08fa1)))
  (sRet (c2 pAdd (cVar 0) (cK (.str q_dae21e)))))
def b_l_spoilt(C:CC):Sx:=
 (sSeq (sIf (tAndE (tTruE (cN pIsinst (aCons (cVar 0) (aCons (cK (.ty "list")) aNil)))) (tAndE (tCmpE (c2 pGt (cN pLen (aCons (cVar 0) aNil)) (cK (.int 0)))) (tCmpE (c2 pGt (c2 pMod (cVar 1) (cK (.int 3))) (cK (.int 0)))))) (sSeq (sSet 3 (c2 pMod (c2 pDiv (cVar 1) (cK (.int 3))) (cN pLen (aCons (cVar 0) aNil))))
  (sRet (c2 pAdd (c2 pAdd (cSl (cVar 0) oNone (oSome (cVar 3))) (cN pLst (aCons (cCall (C .l_spoilt) (aCons (c2 pIx (cVar 0) (cVar 3)) (aCons (c2 pDiv (cVar 1) (cK (.int 7))) (aCons (c2 pSub (cVar 2) (cK (.int 1))) aNil)))) aNil))) (cSl (cVar 0) (oSome (c2 pAdd (cVar 3) (cK (.int 1)))) oNone)))) sNil)
  (sSeq (sIf (tAndE (tTruE (cN pIsinst (aCons (cVar 0) (aCons (cK (.ty "dict")) aNil)))) (tAndE (tCmpE (c2 pGt (cN pLen (aCons (cVar 0) aNil)) (cK (.int 0)))) (tCmpE (c2 pGt (c2 pMod (cVar 1) (cK (.int 3))) (cK (.int 0)))))) (sSeq (sSet 4 (cN pDictM (aCons (cVar 0) aNil)))
  (sSeq (sSet 5 (c2 pIx (cN pSorted (aCons (cVar 4) aNil)) (c2 pMod (c2 pDiv (cVar 1) (cK (.int 3))) (cN pLen (aCons (cVar 4) aNil)))))
  (sSeq (sSetD (cVar 4) (cVar 5) (cCall (C .l_spoilt) (aCons (c2 pIx (cVar 4) (cVar 5)) (aCons (c2 pDiv (cVar 1) (cK (.int 7))) (aCons (c2 pSub (cVar 2) (cK (.int 1))) aNil)))))
  (sRet (cFz (cVar 4)))))) sNil)
  (sRet (cCall (C .l_bad) (aCons (c2 pDiv (cVar 1) (cK (.int 3))) aNil)))))
def b_is_value(C:CC):Sx:=
 (sRet (cCall (C .is_value_within) (aCons (cVar 0) (aCons (cK (.int 6)) aNil))))
def w_l_fields_1(C:CC):Sx:=(sSeq (sSet 3 (c2 pIx (cN pSorted (aCons (cVar 0) aNil)) (c2 pMod (c2 pDiv (cVar 1) (cK (.int 5))) (cN pLen (aCons (cVar 0) aNil)))))
  (sSeq (sDrop (cM isLst pAppend (cVar 2) (aCons (cVar 3) aNil)))
  (sSeq (sSet 0 (c2 pIx (cVar 0) (cVar 3)))
  (sSet 1 (c2 pDiv (cVar 1) (cK (.int 11)))))))
def b_l_fields(C:CC):Sx:=
 (sSeq (sSet 2 (cN pLstM aNil))
  (sSeq (sWhile (tAndE (tTruE (cN pIsinst (aCons (cVar 0) (aCons (cK (.ty "dict")) aNil)))) (tAndE (tCmpE (c2 pGt (c2 pMod (cVar 1) (cK (.int 5))) (cK (.int 0)))) (tCmpE (c2 pLt (cN pLen (aCons (cVar 2) aNil)) (cK (.int 4)))))) (w_l_fields_1 C))
  (sSeq (sIf (tCmpE (c2 pEq (c2 pMod (cVar 1) (cK (.int 3))) (cK (.int 1)))) (sDrop (cM isLst pAppend (cVar 2) (aCons (c2 pIx (cN pLst (aCons (cK (.str [97])) (aCons (cK (.str [98])) (aCons (cK (.str [122,122])) aNil)))) (c2 pMod (c2 pDiv (cVar 1) (cK (.int 3))) (cK (.int 3)))) aNil))) sNil)
  (sRet (cN pTuple (aCons (cVar 2) aNil))))))
def e_looked_up_1(C:CC):Ex:=(cCall (C .copied) (aCons (cVar 0) aNil))
def b_looked_up(C:CC):Sx:=
 (sRet (cN pTuple (aCons (cN okL (aComp [] (aSeq (cCall (C .found) (aCons (cVar 0) (aCons (cVar 1) aNil)))) tYesE (e_looked_up_1 C))) aNil)))
def w_l_looked_1(C:CC):Sx:=(sSeq (sIf (tOrE (tCmpE (c2 pEqS (cVar 2) (cN pLst aNil))) (tOrE (tNotE (tTruE (cN pIsinst (aCons (c2 pIx (cVar 2) (cK (.int 0))) (aCons (cK (.ty "dict")) aNil))))) (tCmpE (c2 pNotIn (cVar 3) (c2 pIx (cVar 2) (cK (.int 0))))))) (sRet (cN pLst aNil)) sNil)
  (sSet 2 (cN pLst (aCons (c2 pIx (c2 pIx (cVar 2) (cK (.int 0))) (cVar 3)) aNil))))
def b_l_looked(C:CC):Sx:=
 (sSeq (sSet 2 (cN pLst (aCons (cVar 0) aNil)))
  (sSeq (sFor (aSeq (cVar 1)) (gNm 3) (w_l_looked_1 C))
  (sRet (cVar 2))))
def w_is_made_of_1(C:CC):Sx:=(sIf (tCmpE (c2 pNotIn (cVar 2) (cVar 1))) (sRet (cK (.bl false))) sNil)
def b_is_made_of(C:CC):Sx:=
 (sSeq (sFor (aSeq (cVar 0)) (gNm 2) (w_is_made_of_1 C))
  (sRet (cK (.bl true))))
def w_l_bad_1(C:CC):Sx:=(sSetD (cVar 3) (c2 pIx (cK (.str [97,98,99,100,101,102,103,104,105])) (cVar 4)) (cVar 4))
def b_l_bad(C:CC):Sx:=
 (sSeq (sSet 1 (cN pLst (aCons (cN pLst (aCons (cN pLst (aCons (cN pLst (aCons (cN pLst (aCons (cN pLst aNil) aNil)) aNil)) aNil)) aNil)) aNil)))
  (sSeq (sIf (tCmpE (c2 pEq (c2 pMod (cVar 0) (cK (.int 2))) (cK (.int 0)))) (sSet 1 (cDict [((cK (.str [97])),(cN pLst (aCons (cDict [((cK (.str [97])),(cN pLst (aCons (cDict [((cK (.str [97])),(cN pLst aNil))]) aNil)))]) aNil)))])) sNil)
  (sSeq (sSet 2 (cN pLst (aCons (cVar 1) aNil)))
  (sSeq (sSet 3 cNewD)
  (sSeq (sFor (aRange1 (aCons (cK (.int 9)) aNil)) (gNm 4) (w_l_bad_1 C))
  (sSeq (sSet 5 (cN pLst (aCons (c2 pMul (cK (.str [97])) (cK (.int 401))) (aCons (c2 pPow (cK (.int 10)) (cK (.int 30))) (aCons (cK .non) (aCons (cN pTup (aCons (cK (.str [97])) aNil)) (aCons (cK (.str [97,9])) (aCons (c2 pMul (cN pLst (aCons (cK (.int 1)) aNil)) (cK (.int 41))) (aCons (cFz (cVar 3)) (aCons (cDict [((cK (.str [65])),(cK (.int 1)))]) (aCons (cDict [((cK (.str [])),(cK (.int 1)))]) aNil)))))))))))
  (sSeq (sSet 6 (cN pLst (aCons (cK (.str [97,115])) (aCons (cK (.str [98,101,116,119,101,101,110])) (aCons (cK (.str [98,111,100,121])) (aCons (cK (.str [101,108,115,101])) (aCons (cK (.str [101,110,100])) (aCons (cK (.str [102,111,114])) (aCons (cK (.str [105,102])) (aCons (cK (.str [105,110])) (aCons (cK (.str [112,105,101,99,101])) (aCons (cK (.str [117,115,101])) (aCons (cK (.str [119,105,116,104])) aNil)))))))))))))
  (sSeq (sSet 5 (c2 pAdd (cVar 5) (cN pLst (aCons (cDict [((cK (.str [97,98,99,100,101,102,103,104,105])),(cK (.int 1)))]) (aCons (cDict [((c2 pIx (cVar 6) (c2 pMod (c2 pDiv (cVar 0) (cK (.int 15))) (cK (.int 11)))),(cK (.int 1)))]) (aCons (cDict [((cK (.str [97])),(cK (.int 1))),((cK (.str [98,32,99])),(cK (.int 2)))]) aNil))))))
  (sRet (c2 pIx (c2 pAdd (cVar 5) (cN pLst (aCons (cDict [((cK (.int 5)),(cK (.int 1)))]) (aCons (cVar 2) (aCons (c1 pNeg (c2 pPow (cK (.int 10)) (cK (.int 30)))) aNil))))) (c2 pMod (cVar 0) (cK (.int 15)))))))))))))
def b_is_value_within(C:CC):Sx:=
 (sSeq (sIf (tCmpE (c2 pLt (cVar 1) (cK (.int 1)))) (sRet (cK (.bl false))) sNil)
  (sSeq (sIf (tTruE (cN pIsinst (aCons (cVar 0) (aCons (cK (.ty "bool")) aNil)))) (sRet (cK (.bl true))) sNil)
  (sSeq (sIf (tTruE (cN pIsinst (aCons (cVar 0) (aCons (cK (.ty "int")) aNil)))) (sRet (cCall (C .is_short_number) (aCons (cVar 0) aNil))) sNil)
  (sSeq (sIf (tTruE (cN pIsinst (aCons (cVar 0) (aCons (cK (.ty "list")) aNil)))) (sRet (cAnd (c2 pLe (cN pLen (aCons (cVar 0) aNil)) (cK (.int 40))) (cCall (C .are_values_within) (aCons (cVar 0) (aCons (c2 pSub (cVar 1) (cK (.int 1))) aNil))))) sNil)
  (sSeq (sIf (tTruE (cN pIsinst (aCons (cVar 0) (aCons (cK (.ty "dict")) aNil)))) (sRet (cCall (C .is_record_within) (aCons (cVar 0) (aCons (cVar 1) aNil)))) sNil)
  (sRet (cCall (C .is_text) (aCons (cVar 0) (aCons (cK (.int 400)) aNil)))))))))
def e_copied_1(C:CC):Ex:=(cCall (C .copied) (aCons (cVar 0) aNil))
def w_copied_2(C:CC):Sx:=(sSetD (cVar 1) (cVar 2) (cCall (C .copied) (aCons (c2 pIx (cVar 0) (cVar 2)) aNil)))
def b_copied(C:CC):Sx:=
 (sSeq (sIf (tTruE (cN pIsinst (aCons (cVar 0) (aCons (cK (.ty "list")) aNil)))) (sRet (cN okL (aComp [] (aSeq (cVar 0)) tYesE (e_copied_1 C)))) sNil)
  (sSeq (sIf (tTruE (cN pIsinst (aCons (cVar 0) (aCons (cK (.ty "dict")) aNil)))) (sSeq (sSet 1 cNewD)
  (sSeq (sFor (aSeqD (cVar 0)) (gNm 2) (w_copied_2 C))
  (sRet (cFz (cVar 1))))) sNil)
  (sRet (cVar 0))))
def w_found_1(C:CC):Sx:=(sSeq (sIf (tOrE (tNotE (tTruE (cN pIsinst (aCons (cVar 2) (aCons (cK (.ty "dict")) aNil))))) (tCmpE (c2 pNotIn (cVar 3) (cVar 2)))) (sRet (cN pTup aNil)) sNil)
  (sSet 2 (c2 pIx (cVar 2) (cVar 3))))
def b_found(C:CC):Sx:=
 (sSeq (sSet 2 (cVar 0))
  (sSeq (sFor (aSeq (cVar 1)) (gNm 3) (w_found_1 C))
  (sRet (cN pTup (aCons (cVar 2) aNil)))))
def b_is_short_number(C:CC):Sx:=
 (sRet (c2 pLt (cN pAbs (aCons (cVar 0) aNil)) (c2 pPow (cK (.int 10)) (cK (.int 30)))))
def w_is_record_within_1(C:CC):Sx:=(sIf (tNotE (tTruE (cCall (C .is_name) (aCons (cVar 2) aNil)))) (sRet (cK (.bl false))) sNil)
def b_is_record_within(C:CC):Sx:=
 (sSeq (sIf (tCmpE (c2 pGt (cN pLen (aCons (cVar 0) aNil)) (cK (.int 8)))) (sRet (cK (.bl false))) sNil)
  (sSeq (sFor (aSeqD (cVar 0)) (gNm 2) (w_is_record_within_1 C))
  (sRet (cCall (C .are_values_within) (aCons (cVals (cVar 0)) (aCons (c2 pSub (cVar 1) (cK (.int 1))) aNil))))))
def w_are_values_within_1(C:CC):Sx:=(sIf (tNotE (tTruE (cCall (C .is_value_within) (aCons (cVar 2) (aCons (cVar 1) aNil))))) (sRet (cK (.bl false))) sNil)
def b_are_values_within(C:CC):Sx:=
 (sSeq (sFor (aSeq (cVar 0)) (gNm 2) (w_are_values_within_1 C))
  (sRet (cK (.bl true))))
def F:Nat→Fn→List PV→Out
 | 0,_,_=>.bad
 | k+1,.law,ps=>runF (b_law (F k)) 1 6 ps
 | k+1,.l_names_right,ps=>runF (b_l_names_right (F k)) 1 10 ps
 | k+1,.l_value_by,ps=>runF (b_l_value_by (F k)) 2 8 ps
 | k+1,.l_deepest,ps=>runF (b_l_deepest (F k)) 1 2 ps
 | k+1,.l_needed,ps=>runF (b_l_needed (F k) (match k with | 0=>fun _ _=>.bad | j+1=>XO (F j)) (match k with | 0=>fun _ _=>.bad | _+1=>FH)) 2 3 ps
 | k+1,.l_refused,ps=>runF (b_l_refused (F k)) 3 6 ps
 | k+1,.l_mixed,ps=>runF (b_l_mixed (F k)) 2 2 ps
 | k+1,.l_looks,ps=>runF (b_l_looks (F k)) 2 5 ps
 | k+1,.l_cell_at,ps=>runF (b_l_cell_at (F k)) 2 2 ps
 | k+1,.l_name_by,ps=>runF (b_l_name_by (F k)) 1 5 ps
 | k+1,.l_odd_name,ps=>runF (b_l_odd_name (F k)) 1 6 ps
 | k+1,.l_is,ps=>runF (b_l_is (F k)) 2 2 ps
 | k+1,.is_text,ps=>runF (b_is_text (F k)) 2 2 ps
 | k+1,.is_path,ps=>runF (b_is_path (F k)) 1 1 ps
 | k+1,.is_name,ps=>runF (b_is_name (F k)) 1 1 ps
 | k+1,.l_signs,ps=>runF (b_l_signs (F k)) 0 1 ps
 | _+1,.need_values,_=>.bad
 | _+1,.l_class,_=>.bad
 | k+1,.l_spoilt,ps=>runF (b_l_spoilt (F k)) 3 6 ps
 | k+1,.is_value,ps=>runF (b_is_value (F k)) 1 1 ps
 | k+1,.l_fields,ps=>runF (b_l_fields (F k)) 2 4 ps
 | k+1,.looked_up,ps=>runF (b_looked_up (F k)) 2 2 ps
 | k+1,.l_looked,ps=>runF (b_l_looked (F k)) 2 4 ps
 | k+1,.is_made_of,ps=>runF (b_is_made_of (F k)) 2 3 ps
 | k+1,.l_bad,ps=>runF (b_l_bad (F k)) 1 7 ps
 | k+1,.is_value_within,ps=>runF (b_is_value_within (F k)) 2 2 ps
 | k+1,.copied,ps=>runF (b_copied (F k)) 1 3 ps
 | k+1,.found,ps=>runF (b_found (F k)) 2 4 ps
 | k+1,.is_short_number,ps=>runF (b_is_short_number (F k)) 1 1 ps
 | k+1,.is_record_within,ps=>runF (b_is_record_within (F k)) 2 3 ps
 | k+1,.are_values_within,ps=>runF (b_are_values_within (F k)) 2 3 ps
def XP:Nat→Fx→List PV→OutX
 | 0=>fun _ _=>.bad
 | j+1=>XO (F j)
def UP:Nat→Fh→List PV→Out
 | 0=>fun _ _=>.bad
 | _+1=>FH
theorem lenU{k:Nat}:∀ (f:Fh) qs v,UP k f qs= .ok v→qs.length=(psOf (hFn f)).length:=by
 cases k with
 | zero=>intro f qs v h;cases h
 | succ k=>intro f qs v h;cases f<;>first | exact runF_len _ _ h | (cases k<;>exact runF_len _ _ h) | cases h
theorem lenF{k:Nat}:∀ (f:Fn) qs v,F k f qs= .ok v→qs.length=(psOf f).length:=by
 cases k with
 | zero=>intro f qs v h;simp [F] at h
 | succ k=>intro f qs v h;cases f<;>first | exact runF_len _ _ h | (cases k<;>exact runF_len _ _ h) | cases h
set_option genInjectivity false in
set_option genSizeOf false in
structure Sys(K:W.Frag)(mg:Str→Option Value) where
 adr:Fn→Addr
 fd:Fn→FuncData
 kls:Nat→Addr
 ok:∀ f,Fun K (nmOf f) (qlOf f) (stOf f) (adr f) (fd f)
 bi:∀ f,Binds K (fd f) (psOf f) []
 m:∀ f,mg (nmOf f)=some (.ref (adr f))
 n:∀ i,mg (ntOf i)=none
 u_MOST_DEPTH:Value
 g_MOST_DEPTH:mg "MOST_DEPTH"=some u_MOST_DEPTH
 r_MOST_DEPTH:RelV (.int 6) u_MOST_DEPTH
 u_MOST_FIELDS:Value
 g_MOST_FIELDS:mg "MOST_FIELDS"=some u_MOST_FIELDS
 r_MOST_FIELDS:RelV (.int 8) u_MOST_FIELDS
 u_MOST_LETTERS:Value
 g_MOST_LETTERS:mg "MOST_LETTERS"=some u_MOST_LETTERS
 r_MOST_LETTERS:RelV (.int 8) u_MOST_LETTERS
 u_MOST_NAMES:Value
 g_MOST_NAMES:mg "MOST_NAMES"=some u_MOST_NAMES
 r_MOST_NAMES:RelV (.int 4) u_MOST_NAMES
 u_MOST_SIGNS:Value
 g_MOST_SIGNS:mg "MOST_SIGNS"=some u_MOST_SIGNS
 r_MOST_SIGNS:RelV (.int 400) u_MOST_SIGNS
 u_MOST_THINGS:Value
 g_MOST_THINGS:mg "MOST_THINGS"=some u_MOST_THINGS
 r_MOST_THINGS:RelV (.int 40) u_MOST_THINGS
 u_SIGNS:Value
 g_SIGNS:mg "SIGNS"=some u_SIGNS
 r_SIGNS:RelV (.str (S q_e84fa8)) u_SIGNS
 u_SMALL_LETTERS:Value
 g_SMALL_LETTERS:mg "SMALL_LETTERS"=some u_SMALL_LETTERS
 r_SMALL_LETTERS:RelV (.str (S q_c3fcd3)) u_SMALL_LETTERS
 a_COMMAND_WORDS:Addr
 g_COMMAND_WORDS:mg "COMMAND_WORDS"=some (.ref a_COMMAND_WORDS)
 k_COMMAND_WORDS:GTup K a_COMMAND_WORDS tv_COMMAND_WORDS
 mc_FormError:mg "FormError"=some (.ref (kls 0))
 mc_BadWay:mg "BadWay"=some (.ref (kls 1))
 mc_BadValue:mg "BadValue"=some (.ref (kls 2))
 mc_BadValues:mg "BadValues"=some (.ref (kls 3))
 mc_TooMany:mg "TooMany"=some (.ref (kls 4))
 mc_Clash:mg "Clash"=some (.ref (kls 5))
 mc_BadText:mg "BadText"=some (.ref (kls 6))
 mc_BadName:mg "BadName"=some (.ref (kls 7))
 mc_Unclear:mg "Unclear"=some (.ref (kls 8))
 mc_NoFill:mg "NoFill"=some (.ref (kls 9))
 xr_BadValues:W.excIn K (kls 3) [.type "ValueError",.type "Exception",.type "BaseException",.type "object"] "ValueError.__new__"=true
 ex_BadValues_FormError:W.exmOne K (.ref (kls 3)) (.ref (kls 0))=some true
 cg_:ClsGet K
 kc_BadValues:KCls K (kls 3)
 xc_BadValues:XCls K (kls 3)
 ki_BadValues_BadName:W.kitOne K (.ref (kls 3)) (.ref (kls 7))=some false
 ki_BadValues_BadText:W.kitOne K (.ref (kls 3)) (.ref (kls 6))=some false
 ki_BadValues_BadValue:W.kitOne K (.ref (kls 3)) (.ref (kls 2))=some false
 ki_BadValues_BadValues:W.kitOne K (.ref (kls 3)) (.ref (kls 3))=some true
 ki_BadValues_BadWay:W.kitOne K (.ref (kls 3)) (.ref (kls 1))=some false
 ki_BadValues_Clash:W.kitOne K (.ref (kls 3)) (.ref (kls 5))=some false
 ki_BadValues_NoFill:W.kitOne K (.ref (kls 3)) (.ref (kls 9))=some false
 ki_BadValues_TooMany:W.kitOne K (.ref (kls 3)) (.ref (kls 4))=some false
 ki_BadValues_Unclear:W.kitOne K (.ref (kls 3)) (.ref (kls 8))=some false
 ki_BadValues_ValueError:W.kitOne K (.ref (kls 3)) (.type "ValueError")=some true
def Sys.tab{K:W.Frag}{mg:Str→Option Value}(Y:Sys K mg):Tab
 | 0=>some (Y.kls 0)
 | 1=>some (Y.kls 1)
 | 2=>some (Y.kls 2)
 | 3=>some (Y.kls 3)
 | 4=>some (Y.kls 4)
 | 5=>some (Y.kls 5)
 | 6=>some (Y.kls 6)
 | 7=>some (Y.kls 7)
 | 8=>some (Y.kls 8)
 | 9=>some (Y.kls 9)
 | _=>none
section
variable (P:Program) (w:World) {K:W.Frag} {mg:Str→Option Value} {base:Heap}
abbrev All(Y:Sys K mg)(base:Heap)(k:Nat):Prop:=∀ f,FnOk P w K mg base CX0 k (Y.adr f) (Y.fd f) (psOf f) (spP K Y.tab (psOf f).length (F k f))
theorem istab(Y:Sys K mg):IsTab K Y.tab kd_ sC_ sT_:=by
 refine ⟨Y.cg_,fun C a h ha=>?_,fun C a h ha=>?_,fun C D a b r h ha hb=>?_,fun C t a r h ha=>?_⟩
 ·unfold kd_ at h;split at h
  ·cases h
  ·cases h
 ·unfold kd_ at h;split at h
  ·cases ha;exact ⟨Y.xc_BadValues,Y.kc_BadValues⟩
  ·cases h
 ·refine lookT_all (P:=fun C D r=>∀ a b,Y.tab C=some a→Y.tab D=some b→W.kitOne K (.ref a) (.ref b)=some r) ?_ h a b ha hb
  exact ⟨fun _ _ ha hb=>(by cases ha;cases hb;exact Y.ki_BadValues_BadName),⟨fun _ _ ha hb=>(by cases ha;cases hb;exact Y.ki_BadValues_BadText),⟨fun _ _ ha hb=>(by cases ha;cases hb;exact Y.ki_BadValues_BadValue),⟨fun _ _ ha hb=>(by cases ha;cases hb;exact Y.ki_BadValues_BadValues),⟨fun _ _ ha hb=>(by cases ha;cases hb;exact Y.ki_BadValues_BadWay),⟨fun _ _ ha hb=>(by cases ha;cases hb;exact Y.ki_BadValues_Clash),⟨fun _ _ ha hb=>(by cases ha;cases hb;exact Y.ki_BadValues_NoFill),⟨fun _ _ ha hb=>(by cases ha;cases hb;exact Y.ki_BadValues_TooMany),⟨fun _ _ ha hb=>(by cases ha;cases hb;exact Y.ki_BadValues_Unclear),True.intro⟩⟩⟩⟩⟩⟩⟩⟩⟩
 ·unfold sT_ at h;split at h
  ·cases ha;cases h;exact Y.ki_BadValues_ValueError
  ·cases h
theorem catOk_FormError(Y:Sys K mg):∀ C Ca,cat_FormError C=true→Y.tab C=some Ca→W.exmOne K (.ref Ca) (.ref (Y.kls 0))=some true:=by
 intro C Ca h ha;unfold cat_FormError at h;split at h
 ·cases ha;exact Y.ex_BadValues_FormError
 ·cases h
theorem exsOk(Y:Sys K mg):∀ C,exs_ C=true→∃ a,Y.tab C=some a:=by
 intro C h;unfold exs_ at h;split at h
 ·exact ⟨_,rfl⟩
 ·cases h
theorem fxP(Y:Sys K mg){k:Nat}:∀ f:Fx,FnX Y.tab (psOf (xFn f)).length (XP k f):=by
 cases k with
 | zero=>exact fun f=>⟨fun qs h=>absurd rfl h,fun qs C h=>by cases h⟩
 | succ k=>exact fun f=>by cases f with
  | need_values=>exact fx_only (exsOk Y)
abbrev AllX(Y:Sys K mg)(base:Heap)(k:Nat):Prop:=∀ f:Fx,FnOk P w K mg base (CXE P w) k (Y.adr (xFn f)) (Y.fd (xFn f)) (psOf (xFn f)) (spX K Y.tab (psOf (xFn f)).length (XP k f))
abbrev AllH(Y:Sys K mg)(base:Heap)(k:Nat):Prop:=∀ f:Fh,FnOkH P w K mg base k (Y.adr (hFn f)) (Y.fd (hFn f)) (psOf (hFn f)) (spP K Y.tab (psOf (hFn f)).length (UP k f))
theorem sc:∀ f,FnScope (nsOf f) (psOf f) (defScope (stOf f)):=fun f=>by cases f<;>exact ⟨rfl,rfl,rfl,by decide+kernel,rfl,by decide+kernel,by decide+kernel⟩
section
variable {X:Cx} {T:Tab} {Ew:VK} {e a b:Expr} {es:List Expr} {f g:Ex} {fs:Ax} {pos p0:Pos}
theorem rst{x:Str}{l:List Nat}{j pos}(e:x=S l:=by kernel_rfl):RE X T Ew (.Constant (.str x) j pos) (cK (.str l)):=re_str l e
theorem ra1(ha:RE X T Ew e f)(hs:starEach [e] X.env=(false,eval e X.env)::starEach [] X.env:=by rfl):RA X T Ew [e] (aCons f aNil):=ra_cons ha ra_nil hs
theorem rdi{keys:List (Option Expr)}{values:List Expr}{fs:List (Ex×Ex)}(h:RPs X T Ew pos keys values fs)(hall:keys.all (·.isSome)=true:=by rfl)(hl:keys.length=values.length:=by rfl)(h0:keys≠ []:=by intro z;cases z)(h15:keys.length≤15:=by decide)(hfl:fs.length=keys.length:=by rfl):RE X T Ew (.Dict keys values pos) (cDict fs):=re_dict h hall hl h0 h15 hfl
def ZC(P:Program)(w:World)(K:W.Frag)(mg:Str→Option Value)(base:Heap)(A:Around)(T:Tab)(x:Str)(fn:List PV→Out):Prop:=∃ k f fd ps,FnOk P w K mg base CX0 k f fd ps (spP K T ps.length fn)∧(∀ qs v,fn qs= .ok v→qs.length=ps.length)∧Room k A∧mg x=some (.ref f)∧W.keepIn K (.ref f)=true∧Binds K fd ps []
theorem zc{x:Str}{fn:List PV→Out}(c:ZC X.prog X.w X.K X.mg X.base X.A T x fn)(hg:Gl X x)(ha:RA X T Ew (e::es) fs)(hdb:(x==("__debug__":Str))=false:=by decide)(he:starEach (e::es) X.env=(false,eval e X.env)::starEach es X.env:=by rfl)(hpl:(backTo pos (starEach es X.env)).any (·.1)=false:=by rfl):RE X T Ew (.Call (.Name x p0) (e::es) [] pos) (cCall fn fs):=by
 obtain ⟨k,f,fd,ps,G,l,hr,m,kp,bi⟩:=c
 exact re_call G l hr hg m kp bi ha hdb he hpl
theorem zty{x:Str}{n:String}(hm:X.mg x=none)(hg:Gl X x:=by rfl)(hv:bootBuiltins x=some (.type n):=by decide+kernel)(hn:x≠"__name__":=by decide)(hd:(x==("__debug__":Str))=false:=by decide):RE X T Ew (.Name x pos) (cK (.ty n)):=re_tyN hg hm hv hn hd
theorem zis{p1:Pos}{x:Str}{n:String}(hi:X.mg "isinstance"=none)(hm:X.mg x=none)(ha:RE X T Ew e f)(hg:Gl X "isinstance":=by rfl)(h1:Gl X x:=by rfl)(hv:bootBuiltins x=some (.type n):=by decide+kernel)(hn:x≠"__name__":=by decide)(hd:(x==("__debug__":Str))=false:=by decide)(he:starEach [e,.Name x p1] X.env=(false,eval e X.env)::starEach [.Name x p1] X.env:=by rfl)(h2:starEach [.Name x p1] X.env=(false,eval (.Name x p1) X.env)::starEach [] X.env:=by rfl)(hpl:(backTo pos (starEach [.Name x p1] X.env)).any (·.1)=false:=by rfl):RE X T Ew (.Call (.Name "isinstance" p0) [e,.Name x p1] [] pos) (cN pIsinst (aCons f (aCons (cK (.ty n)) aNil))):=re_isinst hg hi (ra_cons ha (ra_cons (zty hm h1 hv hn hd) ra_nil h2) he) he hpl
theorem zl(hm:X.mg "len"=none)(ha:RE X T Ew e f)(hg:Gl X "len":=by rfl)(he:starEach [e] X.env=(false,eval e X.env)::starEach [] X.env:=by rfl)(hpl:(backTo pos (starEach [] X.env)).any (·.1)=false:=by rfl):RE X T Ew (.Call (.Name "len" p0) [e] [] pos) (cN pLen (aCons f aNil)):=re_len hg hm (ra1 ha he) he hpl
theorem req(hu:X.A.units+64<cLine)(ha:RE X T Ew a f)(hb:RE X T Ew b g)(hm:behindInMarks .Eq b=false:=by exact nomark _):RE X T Ew (.Compare a [.Eq] [b] pos) (c2 pEq f g):=re_cmp (op_eqD hu) prim_eq ha hb hm
theorem rte(hu:X.A.units+64<cLine)(ha:RE X T Ew a f)(hb:RE X T Ew b g)(hm:behindInMarks .Eq b=false:=by exact nomark _):RT X T Ew (.Compare a [.Eq] [b] pos) (tCmpE (c2 pEq f g)):=rt_cmp (op_eqD hu) prim_eq ha hb hm
theorem rst_{i:Nat}{x:Str}{pos':Pos}(hN:X.N.Nodup)(ha:RE X T Ew a f)(hi:X.N[i]? =some x:=by rfl)(hx:Loc X.env.scope x:=by first | exact .inl rfl | exact .inr rfl)(hs:swapsWith a (some (.Name x pos')) pos.line X.env=pure false:=by rfl)(hf:X.fn x=true∨X.env.scope.names.lookup x=some .local:=by first | exact .inl rfl | exact .inr rfl):RS X T Ew (.Assign [.Name x pos'] a pos) (sSet i f):=rs_set hN hi hx ha hs hf
theorem zall{k:Nat}{A:Around}(Y:Sys K mg)(G:All P w Y base k)(hr:Room k A)(f:Fn):ZC P w K mg base A Y.tab (nmOf f) (F k f):=⟨_,_,_,_,G f,lenF f,hr,Y.m f,(Y.ok f).kp,Y.bi f⟩
theorem zr(ha:RE X T Ew e f):RSs X T Ew [.Return (some e) pos] (sRet f):=rss_one (rs_ret ha)
end
def RH(Y:Sys K mg)(base:Heap)(k:Nat)(f:Fn)(b:Sx):Prop:=∀ (cdv:Value) (A:Around) (outer:List Env) (s:Shared) (H:Hp) (E:XK) (fa:Addr),RoomH k (A.deeper (envOfC (qlOf f) (defScope (stOf f)) s.heap.objs.size fa cdv))→RSs (cxH P w K mg base (nsOf f) (qlOf f) (defScope (stOf f)) fa cdv A outer s H E) Y.tab (fun _ _=>False) (defBody (stOf f)) b
def RX(Y:Sys K mg)(base:Heap)(k:Nat)(f:Fn)(b:Sx):Prop:=∀ (cdv:Value) (A:Around) (outer:List Env) (s:Shared) (H:Hp) (E:XK) (fa:Addr),Room k (A.deeper (envOfC (qlOf f) (defScope (stOf f)) s.heap.objs.size fa cdv))→RSs (cxOf (CXE P w) P w K mg base (nsOf f) (qlOf f) (defScope (stOf f)) fa cdv A outer s H E) Y.tab (EwOf E) (defBody (stOf f)) b
def RR(Y:Sys K mg)(base:Heap)(k:Nat)(f:Fn)(b:Sx):Prop:=∀ (cdv:Value) (A:Around) (outer:List Env) (s:Shared) (H:Hp) (E:XK) (fa:Addr),Room k (A.deeper (envOfC (qlOf f) (defScope (stOf f)) s.heap.objs.size fa cdv))→RSs (cxOf CX0 P w K mg base (nsOf f) (qlOf f) (defScope (stOf f)) fa cdv A outer s H E).nox Y.tab (fun _ _=>False) (defBody (stOf f)) b
theorem rh_l_class(Y:Sys K mg){k:Nat}:RH P w Y base k .l_class h_l_class:=fun cdv A outer s H E f hr=>by have hu:=hr.units;have hN:=(sc .l_class).nd;have n:=Y.n;exact (rss_cons (rst_ hN (re_lstM (ra_cons (re_isC (istab Y) rfl (n .isinstance) (ra_cons (rv 0) (ra1 (re_globC rfl Y.mc_BadWay rfl)))) (ra_cons (re_isC (istab Y) rfl (n .isinstance) (ra_cons (rv 0) (ra1 (re_globC rfl Y.mc_BadValue rfl)))) (ra_cons (re_isC (istab Y) rfl (n .isinstance) (ra_cons (rv 0) (ra1 (re_globC rfl Y.mc_BadValues rfl)))) (ra1 (re_isC (istab Y) rfl (n .isinstance) (ra_cons (rv 0) (ra1 (re_globC rfl Y.mc_BadText rfl))))))))))
  (rss_cons (rst_ hN (re_addM (rv 1) (re_lst (ra_cons (re_isC (istab Y) rfl (n .isinstance) (ra_cons (rv 0) (ra1 (re_globC rfl Y.mc_BadName rfl)))) (ra_cons (re_isC (istab Y) rfl (n .isinstance) (ra_cons (rv 0) (ra1 (re_globC rfl Y.mc_TooMany rfl)))) (ra_cons (re_isC (istab Y) rfl (n .isinstance) (ra_cons (rv 0) (ra1 (re_globC rfl Y.mc_Unclear rfl)))) (ra1 (re_isC (istab Y) rfl (n .isinstance) (ra_cons (rv 0) (ra1 (re_globC rfl Y.mc_NoFill rfl)))))))))))
  (rss_cons (rs_expr (re_bm ty_lst PySem.F.plainAttrs_list PySem.F.slot_list_append PySem.F.type_list_append mt_append prim_append (rv 1) (ra1 (re_isC (istab Y) rfl (n .isinstance) (ra_cons (rv 0) (ra1 (re_globC rfl Y.mc_Clash rfl)))))))
  (rss_cons (rs_if (RW.rt (rw_or (rt_cmp (op_neD hu) prim_ne (re_bm ty_lst PySem.F.plainAttrs_list PySem.F.slot_list_count PySem.F.type_list_count mt_countB prim_countB (rv 1) (ra1 re_bl)) re_int (nomark _)) (rw_or1 (rt_not (rt_tru (re_isC (istab Y) rfl (n .isinstance) (ra_cons (rv 0) (ra1 (zty (n .ValueError)))))))))) (zr (re_lst (ra1 rst))) rss_nil)
  (rss_cons (rst_ hN (re_ix hu (re_lst (ra_cons rst (ra_cons rst (ra_cons rst (ra_cons rst (ra_cons rst (ra_cons rst (ra_cons rst (ra_cons rst (ra1 rst)))))))))) (re_bm ty_lst PySem.F.plainAttrs_list PySem.F.slot_list_index PySem.F.type_list_index mt_indexB prim_indexB (rv 1) (ra1 re_bl))))
  (rss_cons (rs_if (rt_cmp (op_inA hu) prim_in (rv 2) (re_tup (ra_cons rst (ra_cons rst (ra_cons rst (ra1 rst))))) (by with_unfolding_all rfl)) (zr (re_lst (ra_cons (rv 2) (ra1 re_bad)))) rss_nil)
  (zr (re_lst (ra1 (rv 2))))))))))
theorem rx_need_values(Y:Sys K mg){k:Nat}(G:All P w Y base k):RX P w Y base k .need_values (x_need_values (F k)):=fun cdv A outer s H E f hr=>by have hu:=hr.units;have hN:=(sc .need_values).nd;have n:=Y.n;have c:=zall P w Y G hr;exact (rss_cons (rs_if (rt_not (rt_tru (zis (n .isinstance) (n .dict) (rv 1)))) (rss_one (rs_raise PySem.F.excBase_ValueError (by decide+kernel) PySem.F.excBase_ValueError Y.xr_BadValues rfl rfl Y.mc_BadValues lv_cxOf (ra1 rst))) rss_nil)
  (rss_cons (rs_for (by with_unfolding_all exact PassesOwn.leaving) rfl (ri_seqD (rv 0)) (rg_name hN rfl (Or.inl rfl)) (rss_one (rs_if (rt_cmp (op_notInA hu) prim_notIn (rv 2) (rv 1) (by with_unfolding_all rfl)) (rss_one (rs_raise PySem.F.excBase_ValueError (by decide+kernel) PySem.F.excBase_ValueError Y.xr_BadValues rfl rfl Y.mc_BadValues lv_cxOf (ra1 rst))) rss_nil)))
  (rss_one (rs_for (by with_unfolding_all exact PassesOwn.leaving) rfl (ri_seqD (rv 1)) (rg_name hN rfl (Or.inl rfl)) (rss_cons (rs_if (rt_cmp (op_notInA hu) prim_notIn (rv 2) (rv 0) (by with_unfolding_all rfl)) (rss_one (rs_raise PySem.F.excBase_ValueError (by decide+kernel) PySem.F.excBase_ValueError Y.xr_BadValues rfl rfl Y.mc_BadValues lv_cxOf (ra1 rst))) rss_nil)
  (rss_one (rs_if (rt_not (rt_tru (zc (c .is_value) rfl (ra1 (re_ix hu (rv 1) (rv 2)))))) (rss_one (rs_raise PySem.F.excBase_ValueError (by decide+kernel) PySem.F.excBase_ValueError Y.xr_BadValues rfl rfl Y.mc_BadValues lv_cxOf (ra1 rst))) rss_nil)))))))
theorem allH(Y:Sys K mg):∀ k,AllH P w Y base k
 | 0=>fun f=>⟨fun vs H Q E h=>(by obtain ⟨_,_,_,_,_,_,e,_⟩:=h;cases e),fun A outer s H args us vs Q E _ _ _ _ h=>(by obtain ⟨_,_,_,_,_,_,e,_⟩:=h;cases e)⟩
 | k+1=>fun f=>by
  cases f with
  | l_class=>exact fn_pureH (Y.ok .l_class) (sc _) fun cdv A outer s H E hr=>rh_l_class P w Y cdv A outer s H E _ hr
theorem allX(Y:Sys K mg):∀ k,All P w Y base (k - 1)→AllX P w Y base k
 | 0,_=>fun f=>⟨fun vs H Q E h=>by obtain ⟨_,_,_,_,_,e⟩:=h;exact e.elim,fun A outer s H args us vs Q E _ _ _ _ h=>by obtain ⟨_,_,_,_,_,e⟩:=h;exact e.elim⟩
 | k+1,G=>fun f=>by
  cases f with
  | need_values=>exact fn_only (fn_raise (Y.ok .need_values) (sc _) fun cdv A outer s H E hr=>rx_need_values P w Y G cdv A outer s H E _ hr)
theorem fp(Y:Sys K mg){k:Nat}{f:Fn}{b:Sx}(h:RR P w Y base k f b):FnOk P w K mg base CX0 (k+1) (Y.adr f) (Y.fd f) (psOf f) (spP K Y.tab (psOf f).length (runF b (psOf f).length (nsOf f).length)):=fn_pure (Y.ok f) (sc f) fun cdv A outer s H E hr=>h cdv A outer s H E _ hr
theorem r_law(Y:Sys K mg){k:Nat}(G:All P w Y base k):RR P w Y base k .law (b_law (F k)):=fun cdv A outer s H E f hr=>by have hu:=hr.units;have hN:=(sc .law).nd;have n:=Y.n;have c:=zall P w Y G hr;exact (rss_cons (rs_if (rt_not (rt_tru (zc (c .l_names_right) rfl (ra1 (rv 0))))) (zr re_bl) rss_nil)
  (rss_cons (rst_ hN (re_slice (re_lst (ra_cons rst (ra_cons rst (ra_cons rst (ra1 rst))))) ro_none (ro_some (re_mod (zc (c .l_cell_at) rfl (ra_cons (rv 0) (ra1 re_int))) re_int))))
  (rss_cons (rst_ hN re_newD)
  (rss_cons (rs_for PassesOwn.never rfl (ri_range1 rfl (n .range) (ra1 (zl (n .len) (rv 1)))) (rg_name hN rfl (Or.inl rfl)) (rss_one (rs_setD hu (rv 2) (re_ix hu (rv 1) (rv 3)) (zc (c .l_value_by) rfl (ra_cons (zc (c .l_mixed) rfl (ra_cons (zc (c .l_cell_at) rfl (ra_cons (rv 0) (ra1 (re_add re_int (rv 3))))) (ra1 (rv 3)))) (ra1 re_int))))))
  (rss_cons (rs_if (RW.rt (rw_and (rt_cmp (op_neD hu) prim_ne (rv 1) (re_lst ra_nil) (nomark _)) (rw_and1 (rte hu (re_mod (re_fdiv (zc (c .l_cell_at) rfl (ra_cons (rv 0) (ra1 re_int))) re_int) re_int) re_int)))) (rss_one (rs_setD hu (rv 2) (re_ix hu (rv 1) re_int) (zc (c .l_deepest) rfl (ra1 (re_fdiv (zc (c .l_cell_at) rfl (ra_cons (rv 0) (ra1 re_int))) re_int))))) rss_nil)
  (rss_cons (rst_ hN (re_reprD hr rfl (n .repr) (ra1 (re_fz (rv 2)))))
  (rss_cons (rs_for PassesOwn.never rfl (ri_seq (rv 1)) (rg_name hN rfl (Or.inl rfl)) (rss_one (rs_if (rt_not (rt_tru (zc (c .l_looks) rfl (ra_cons (re_ix hu (rv 2) (rv 5)) (ra1 (zc (c .l_mixed) rfl (ra_cons (zc (c .l_cell_at) rfl (ra_cons (rv 0) (ra1 re_int))) (ra1 re_int)))))))) (zr re_bl) rss_nil)))
  (rss_cons (rs_if (rt_cmp (op_neD hu) prim_ne (zc (c .l_needed) rfl (ra_cons (re_tuple rfl (n .tuple) (ra1 (rv 1))) (ra1 (re_fz (rv 2))))) (re_tup (ra1 re_non)) (nomark _)) (zr re_bl) rss_nil)
  (rss_cons (rs_if (rt_not (rt_tru (zc (c .l_refused) rfl (ra_cons (rv 1) (ra_cons (re_fz (rv 2)) (ra1 (zc (c .l_mixed) rfl (ra_cons (zc (c .l_cell_at) rfl (ra_cons (rv 0) (ra1 re_int))) (ra1 re_int))))))))) (zr re_bl) rss_nil)
  (zr (re_and (req hu (zc (c .l_needed) rfl (ra_cons (re_tuple rfl (n .tuple) (ra1 (rv 1))) (ra1 (re_fz (rv 2))))) (re_tup (ra1 re_non))) (re_one (req hu (re_reprD hr rfl (n .repr) (ra1 (re_fz (rv 2)))) (rv 4))))))))))))))
theorem r_l_names_right(Y:Sys K mg){k:Nat}(G:All P w Y base k):RR P w Y base k .l_names_right (b_l_names_right (F k)):=fun cdv A outer s H E f hr=>by have hu:=hr.units;have hN:=(sc .l_names_right).nd;have n:=Y.n;have c:=zall P w Y G hr;exact (rss_cons (rst_ hN (zc (c .l_name_by) rfl (ra1 (zc (c .l_mixed) rfl (ra_cons (zc (c .l_cell_at) rfl (ra_cons (rv 0) (ra1 re_int))) (ra1 re_int))))))
  (rss_cons (rst_ hN (zc (c .l_odd_name) rfl (ra1 (zc (c .l_mixed) rfl (ra_cons (zc (c .l_cell_at) rfl (ra_cons (rv 0) (ra1 re_int))) (ra1 re_int))))))
  (rss_cons (rst_ hN (zc (c .l_mixed) rfl (ra_cons (zc (c .l_cell_at) rfl (ra_cons (rv 0) (ra1 re_int))) (ra1 re_int))))
  (rss_cons (rst_ hN (re_tuple rfl (n .tuple) (ra1 (re_comp (M:= ["_law_k","_law_cell"]) _ rfl (CompOk.of (by kernel_rfl)) (ri_range1 rfl (n .range) (ra1 (re_addE re_int (re_mod (rv 3) re_int)))) (fun _ _ _ _ _=>rf_nil) (fun _ _ _ _ _=>(zc (c .l_name_by) rfl (ra1 (re_fdiv (rv 1) (re_addE re_int (rv 0))))))))))
  (rss_cons (rst_ hN (re_mod (re_fdiv (rv 3) re_int) (zl (n .len) (rv 4))))
  (rss_cons (rs_if (RW.rt (rw_or (rt_not (rt_tru (zc (c .l_is) rfl (ra_cons (zc (c .is_name) rfl (ra1 (rv 1))) (ra1 re_bl))))) (rw_or (rt_not (rt_tru (zc (c .l_is) rfl (ra_cons (zc (c .is_name) rfl (ra1 (rv 2))) (ra1 re_bl))))) (rw_or1 (rt_not (rt_tru (zc (c .l_is) rfl (ra_cons (zc (c .is_path) rfl (ra1 (rv 4))) (ra1 re_bl))))))))) (zr re_bl) rss_nil)
  (rss_cons (rst_ hN (re_lst (ra_cons (re_addE (re_addE (re_slice (rv 4) ro_none (ro_some (rv 5))) (re_tup (ra1 (rv 2)))) (re_slice (rv 4) (ro_some (re_addE (rv 5) re_int)) ro_none)) (ra_cons (re_tup ra_nil) (ra_cons (re_addE (rv 4) (re_tup (ra_cons rst (ra_cons rst (ra_cons rst (ra1 rst)))))) (ra_cons (re_list rfl (n .list) (ra1 (rv 4))) (ra_cons (re_bm ty_str PySem.F.plainAttrs_str PySem.F.slot_str_join PySem.F.type_str_join mt_joinT prim_joinT rst (ra1 (rv 4))) (ra1 re_non))))))))
  (rss_cons (rs_if (rt_not (rt_tru (zc (c .l_is) rfl (ra_cons (zc (c .is_path) rfl (ra1 (re_ix hu (rv 6) (re_mod (re_fdiv (rv 3) re_int) re_int)))) (ra1 re_bl))))) (zr re_bl) rss_nil)
  (rss_cons (rst_ hN (re_bm ty_str PySem.F.plainAttrs_str PySem.F.slot_str_join PySem.F.type_str_join mt_join prim_join rst (ra1 (re_comp (M:= ["_law_k","_law_cell"]) _ rfl (CompOk.of (by kernel_rfl)) (ri_range1 rfl (n .range) (ra1 (re_mod (rv 3) re_int))) (fun _ _ _ _ _=>rf_nil) (fun _ _ _ _ _=>(re_ix hu (re_call0 (G .l_signs) (lenF .l_signs) hr rfl (Y.m .l_signs) (Y.ok .l_signs).kp (Y.bi .l_signs)) (re_mod (zc (c .l_mixed) rfl (ra_cons (rv 1) (ra1 (rv 0)))) re_int)))))))
  (rss_cons (rs_if (RW.rt (rw_or (rt_not (rt_tru (zc (c .l_is) rfl (ra_cons (zc (c .is_text) rfl (ra_cons (rv 7) (ra1 (zl (n .len) (rv 7))))) (ra1 re_bl))))) (rw_or1 (rt_not (rt_tru (zc (c .l_is) rfl (ra_cons (zc (c .is_text) rfl (ra_cons (re_addE (rv 7) rst) (ra1 (zl (n .len) (rv 7))))) (ra1 re_bl)))))))) (zr re_bl) rss_nil)
  (rss_cons (rst_ hN (re_mod (re_fdiv (rv 3) re_int) (re_addE (zl (n .len) (rv 7)) re_int)))
  (rss_cons (rst_ hN (re_ix hu (re_lst (ra_cons (re_addE (re_addE (re_slice (rv 7) ro_none (ro_some (rv 8))) rst) (re_slice (rv 7) (ro_some (rv 8)) ro_none)) (ra_cons re_non (ra_cons re_int (ra_cons (re_lst (ra1 (rv 7))) (ra1 re_bl)))))) (re_mod (re_fdiv (rv 3) re_int) re_int)))
  (zr (zc (c .l_is) rfl (ra_cons (zc (c .is_text) rfl (ra_cons (rv 9) (ra1 re_int))) (ra1 re_bl))))))))))))))))
theorem r_l_value_by(Y:Sys K mg){k:Nat}(G:All P w Y base k):RR P w Y base k .l_value_by (b_l_value_by (F k)):=fun cdv A outer s H E f hr=>by have hu:=hr.units;have hN:=(sc .l_value_by).nd;have n:=Y.n;have c:=zall P w Y G hr;exact (rss_cons (rst_ hN (re_mod (rv 0) re_int))
  (rss_cons (rst_ hN (zc (c .l_mixed) rfl (ra_cons (re_fdiv (rv 0) re_int) (ra1 (rv 1)))))
  (rss_cons (rs_if (rt_cmp op_lt prim_cmp (rv 1) re_int (nomark _)) (rss_one (rst_ hN (re_mod (rv 2) re_int))) rss_nil)
  (rss_cons (rs_if (rte hu (rv 2) re_int) (zr (re_ix hu (re_lst (ra_cons rst (ra_cons (re_mul rst re_int) (ra_cons rst (ra1 (re_mul rst (re_mod (rv 3) re_int))))))) (re_mod (rv 3) re_int))) rss_nil)
  (rss_cons (rs_if (rte hu (rv 2) re_int) (zr (re_ix hu (re_lst (ra_cons re_int (ra_cons (re_sub (re_pow re_int re_int) re_int) (ra_cons (re_sub re_int (re_pow re_int re_int)) (ra1 (rv 3)))))) (re_mod (rv 3) re_int))) rss_nil)
  (rss_cons (rs_if (rt_cmp op_lt prim_cmp (rv 2) re_int (nomark _)) (zr (req hu (re_mod (rv 3) re_int) re_int)) rss_nil)
  (rss_cons (rs_if (rte hu (rv 2) re_int) (rss_cons (rst_ hN (re_ix hu (re_lst (ra_cons re_int (ra_cons re_int (ra_cons re_int (ra1 (re_ix hu (re_lst (ra_cons re_int (ra1 re_int))) (re_intB rfl (n .int) (ra1 (req hu (rv 1) re_int))))))))) (re_mod (rv 3) re_int)))
  (zr (re_comp (M:= ["_law_k","_law_deep","_law_more"]) _ rfl (CompOk.of (by kernel_rfl)) (ri_range1 rfl (n .range) (ra1 (rv 4))) (fun _ _ _ _ _=>rf_nil) (fun _ _ _ _ _=>(zc (c .l_value_by) rfl (ra_cons (re_add (re_fdiv (rv 2) (re_add re_int (rv 0))) (rv 0)) (ra1 (re_sub (rv 1) re_int)))))))) rss_nil)
  (rss_cons (rst_ hN re_newD)
  (rss_cons (rs_for PassesOwn.never rfl (ri_range1 rfl (n .range) (ra1 (re_ix hu (re_lst (ra_cons (re_add re_int (re_mod (rv 3) re_int)) (ra1 re_int))) (re_intB rfl (n .int) (ra1 (re_and (req hu (re_mod (rv 3) re_int) re_int) (re_one (re_cmp op_lt prim_cmp (rv 1) re_int (nomark _))))))))) (rg_name hN rfl (Or.inl rfl)) (rss_cons (rst_ hN (re_slice rst (ro_some (rv 6)) (ro_some (re_add (re_add (rv 6) re_int) (re_mod (re_fdiv (rv 3) re_int) re_int)))))
  (rss_one (rs_setD hu (rv 5) (rv 7) (zc (c .l_value_by) rfl (ra_cons (re_add (re_fdiv (rv 3) (re_add re_int (rv 6))) (re_mul re_int (rv 6))) (ra1 (re_sub (rv 1) re_int))))))))
  (zr (re_fz (rv 5))))))))))))
theorem r_l_deepest(Y:Sys K mg){k:Nat}(G:All P w Y base k):RR P w Y base k .l_deepest (b_l_deepest (F k)):=fun cdv A outer s H E f hr=>by have hu:=hr.units;have hN:=(sc .l_deepest).nd;have n:=Y.n;have c:=zall P w Y G hr;exact (rss_cons (rst_ hN (re_lst (ra_cons (re_lst (ra1 (re_lst (ra1 (re_lst (ra1 (re_lst (ra1 (re_lst (ra1 (re_lst ra_nil))))))))))) (ra_cons (rdi (rps_cons rst (re_lst (ra1 (rdi (rps_cons rst (re_lst (ra1 (rdi (rps_cons rst re_dict0 rps_nil)))) rps_nil)))) rps_nil)) (ra_cons (re_lst (ra_cons (re_lst (ra1 (re_lst (ra1 (re_lst (ra1 (re_lst (ra1 re_dict0)))))))) (ra1 re_int))) (ra1 (rdi (rps_cons rst (rdi (rps_cons rst (rdi (rps_cons rst (rdi (rps_cons rst (re_lst (ra1 (re_lst ra_nil))) rps_nil)) rps_nil)) rps_nil)) rps_nil))))))))
  (zr (re_ix hu (rv 1) (re_mod (rv 0) re_int))))
theorem r_l_needed(Y:Sys K mg){k:Nat}(G:All P w Y base k)(GX:AllX P w Y base k)(GH:AllH P w Y base k):RR P w Y base k .l_needed (b_l_needed (F k) (XP k) (UP k)):=fun cdv A outer s H E f hr=>by have hu:=hr.units;have hN:=(sc .l_needed).nd;have n:=Y.n;have c:=zall P w Y G hr;exact (rss_one (rs_try (catOk_FormError Y) (fun pn W Eb hp=>(zr (re_tup (ra1 (re_callX (GX .need_values) (fxP Y .need_values) hp hr rfl (Y.m .need_values) (Y.ok .need_values).kp (Y.bi .need_values) (ra_cons (rv 0) (ra1 (rv 1)))))))) (fun pn a=>(zr (re_callH (GH .l_class) (lenU .l_class) (hr.h.mark _) rfl (Y.m .l_class) (Y.ok .l_class).kp (Y.bi .l_class) (ra1 (rv 2))))) hN rfl rfl rfl Y.mc_FormError))
theorem r_l_refused(Y:Sys K mg){k:Nat}(G:All P w Y base k):RR P w Y base k .l_refused (b_l_refused (F k)):=fun cdv A outer s H E f hr=>by have hu:=hr.units;have hN:=(sc .l_refused).nd;have n:=Y.n;have c:=zall P w Y G hr;exact (rss_cons (rst_ hN (re_ix hu (re_lst (ra_cons re_non (ra_cons (re_lst ra_nil) (ra_cons (re_dictM rfl (n .dict) (ra1 (rv 1))) (ra_cons (re_tuple rfl (n .tuple) (ra1 (rv 0))) (ra1 rst)))))) (re_mod (rv 2) re_int)))
  (rss_cons (rs_if (RW.rt (rw_and (rte hu (re_mod (rv 2) re_int) re_int) (rw_and1 (rt_cmp (op_neD hu) prim_ne (rv 0) (re_lst ra_nil) (nomark _))))) (rss_cons (rst_ hN (re_ix hu (rv 0) (re_mod (re_fdiv (rv 2) re_int) (zl (n .len) (rv 0)))))
  (rss_cons (rs_setD hu (rv 3) (rv 4) (zc (c .l_spoilt) rfl (ra_cons (re_ix hu (rv 1) (rv 4)) (ra_cons (re_fdiv (rv 2) re_int) (ra1 re_int)))))
  (rss_cons (rs_if (rt_not (rt_tru (zc (c .l_is) rfl (ra_cons (zc (c .is_value) rfl (ra1 (re_ix hu (rv 3) (rv 4)))) (ra1 re_bl))))) (zr re_bl) rss_nil)
  (rss_one (rs_if (rte hu (re_mod (re_fdiv (rv 2) re_int) re_int) re_int) (rss_one (rs_expr (re_pop (rv 3) (rv 4) ⟨rfl,rfl,rfl,rfl⟩))) rss_nil))))) (rss_one (rs_if (rte hu (re_mod (rv 2) re_int) re_int) (rss_one (rs_setD hu (rv 3) rst re_int)) rss_nil)))
  (rss_cons (rst_ hN (re_dictM rfl (n .dict) (ra1 (rv 1))))
  (rss_cons (rs_setD hu (rv 5) rst re_int)
  (rss_cons (rs_if (RW.rt (rw_and (rt_cmp (op_neD hu) prim_ne (rv 0) (re_lst ra_nil) (nomark _)) (rw_and1 (rte hu (re_mod (re_fdiv (rv 2) re_int) re_int) re_int)))) (rss_one (rs_expr (re_pop (rv 5) (re_ix hu (rv 0) (re_mod (re_fdiv (rv 2) re_int) (zl (n .len) (rv 0)))) ⟨rfl,rfl,rfl,rfl⟩))) rss_nil)
  (zr (re_and (req hu (zc (c .l_needed) rfl (ra_cons (re_tuple rfl (n .tuple) (ra1 (rv 0))) (ra1 (re_fz (rv 3))))) (re_lst (ra1 rst))) (re_one (req hu (zc (c .l_needed) rfl (ra_cons (re_tuple rfl (n .tuple) (ra1 (rv 0))) (ra1 (re_fz (rv 5))))) (re_lst (ra1 rst)))))))))))
theorem r_l_mixed(Y:Sys K mg){k:Nat}(G:All P w Y base k):RR P w Y base k .l_mixed (b_l_mixed (F k)):=fun cdv A outer s H E f hr=>by have hu:=hr.units;have hN:=(sc .l_mixed).nd;have n:=Y.n;have c:=zall P w Y G hr;exact (zr (re_mod (re_mul (re_add (re_add (rv 0) (re_mul (re_mul re_int (rv 1)) (rv 1))) re_int) re_int) re_int))
theorem r_l_looks(Y:Sys K mg){k:Nat}(G:All P w Y base k):RR P w Y base k .l_looks (b_l_looks (F k)):=fun cdv A outer s H E f hr=>by have hu:=hr.units;have hN:=(sc .l_looks).nd;have n:=Y.n;have c:=zall P w Y G hr;exact (rss_cons (rst_ hN (zc (c .l_fields) rfl (ra_cons (rv 0) (ra1 (rv 1)))))
  (rss_cons (rst_ hN (zc (c .looked_up) rfl (ra_cons (rv 0) (ra1 (rv 2)))))
  (rss_cons (rst_ hN (zc (c .l_looked) rfl (ra_cons (rv 0) (ra1 (rv 2)))))
  (rss_cons (rs_if (RW.rt (rw_or (rt_not (rt_tru (zc (c .l_is) rfl (ra_cons (zc (c .is_value) rfl (ra1 (rv 0))) (ra1 re_bl))))) (rw_or (rt_not (rt_tru (zis (n .isinstance) (n .tuple) (rv 3)))) (rw_or1 (rt_cmp ((op_neS hu).or (op_neD hu)) prim_neS (re_list rfl (n .list) (ra1 (rv 3))) (rv 4) (nomark _)))))) (zr re_bl) rss_nil)
  (zr (re_or (re_cmp ((op_eqS hu).or (op_eqD hu)) prim_eqS (rv 4) (re_lst ra_nil) (nomark _)) (re_one (req hu (zis (n .isinstance) (n .bool) (re_ix hu (rv 3) re_int)) (zis (n .isinstance) (n .bool) (re_ix hu (rv 4) re_int))))))))))
theorem r_l_cell_at(Y:Sys K mg){k:Nat}(G:All P w Y base k):RR P w Y base k .l_cell_at (b_l_cell_at (F k)):=fun cdv A outer s H E f hr=>by have hu:=hr.units;have hN:=(sc .l_cell_at).nd;have n:=Y.n;have c:=zall P w Y G hr;exact (rss_cons (rs_if (rt_cmp op_lt prim_cmp (rv 1) (zl (n .len) (rv 0)) (nomark _)) (zr (re_ix hu (rv 0) (rv 1))) rss_nil)
  (zr re_int))
theorem r_l_name_by(Y:Sys K mg){k:Nat}(G:All P w Y base k):RR P w Y base k .l_name_by (b_l_name_by (F k)):=fun cdv A outer s H E f hr=>by have hu:=hr.units;have hN:=(sc .l_name_by).nd;have n:=Y.n;have c:=zall P w Y G hr;exact (rss_cons (rst_ hN rst)
  (rss_cons (rst_ hN (re_lst (ra_cons rst (ra_cons rst (ra_cons rst (ra_cons rst (ra_cons rst (ra_cons rst (ra_cons rst (ra_cons rst (ra_cons rst (ra_cons rst (ra1 rst)))))))))))))
  (rss_cons (rst_ hN (re_add re_int (re_mod (rv 0) re_int)))
  (rss_cons (rst_ hN (re_bm ty_str PySem.F.plainAttrs_str PySem.F.slot_str_join PySem.F.type_str_join mt_join prim_join rst (ra1 (re_comp (M:= ["_law_k","_law_some","_law_cell"]) _ rfl (CompOk.of (by kernel_rfl)) (ri_range1 rfl (n .range) (ra1 (rv 3))) (fun _ _ _ _ _=>rf_nil) (fun _ _ _ _ _=>(re_ix hu (rv 1) (re_mod (re_fdiv (zc (c .l_mixed) rfl (ra_cons (re_fdiv (rv 2) re_int) (ra1 (rv 0)))) re_int) re_int)))))))
  (rss_cons (rs_if (rt_cmp (op_inA hu) prim_in (rv 4) (rv 2) (by with_unfolding_all rfl)) (zr rst) rss_nil)
  (zr (rv 4)))))))
theorem r_l_odd_name(Y:Sys K mg){k:Nat}(G:All P w Y base k):RR P w Y base k .l_odd_name (b_l_odd_name (F k)):=fun cdv A outer s H E f hr=>by have hu:=hr.units;have hN:=(sc .l_odd_name).nd;have n:=Y.n;have c:=zall P w Y G hr;exact (rss_cons (rst_ hN (re_lst (ra_cons rst (ra_cons rst (ra_cons rst (ra_cons rst (ra_cons rst (ra_cons rst (ra_cons rst (ra_cons rst (ra_cons rst (ra_cons rst (ra1 rst)))))))))))))
  (rss_cons (rst_ hN (zc (c .l_name_by) rfl (ra1 (re_fdiv (rv 0) re_int))))
  (rss_cons (rst_ hN (re_mod (re_fdiv (rv 0) re_int) (zl (n .len) (rv 2))))
  (rss_cons (rst_ hN (re_ix hu rst (re_mod (re_fdiv (rv 0) re_int) re_int)))
  (rss_cons (rst_ hN (re_lst (ra_cons rst (ra_cons re_non (ra_cons re_int (ra_cons re_bl (ra_cons (re_lst (ra1 rst)) (ra_cons (re_tup (ra1 rst)) (ra_cons re_dict0 (ra_cons rst (ra1 (re_add (re_add (re_slice (rv 2) ro_none (ro_some (rv 3))) (rv 4)) (re_slice (rv 2) (ro_some (re_add (rv 3) re_int)) ro_none)))))))))))))
  (zr (re_ix hu (re_add (rv 1) (rv 5)) (re_mod (rv 0) re_int))))))))
theorem r_l_is(Y:Sys K mg){k:Nat}(G:All P w Y base k):RR P w Y base k .l_is (b_l_is (F k)):=fun cdv A outer s H E f hr=>by have hu:=hr.units;have hN:=(sc .l_is).nd;have n:=Y.n;have c:=zall P w Y G hr;exact (zr (re_and (zis (n .isinstance) (n .bool) (rv 0)) (re_one (req hu (rv 0) (rv 1)))))
theorem r_is_text(Y:Sys K mg){k:Nat}(G:All P w Y base k):RR P w Y base k .is_text (b_is_text (F k)):=fun cdv A outer s H E f hr=>by have hu:=hr.units;have hN:=(sc .is_text).nd;have n:=Y.n;have c:=zall P w Y G hr;exact (zr (re_and (zis (n .isinstance) (n .str) (rv 0)) (re_and (re_cmp op_le prim_cmp (zl (n .len) (rv 0)) (rv 1) (nomark _)) (re_one (zc (c .is_made_of) rfl (ra_cons (rv 0) (ra1 (re_globS rfl Y.g_SIGNS Y.r_SIGNS))))))))
theorem r_is_path(Y:Sys K mg){k:Nat}(G:All P w Y base k):RR P w Y base k .is_path (b_is_path (F k)):=fun cdv A outer s H E f hr=>by have hu:=hr.units;have hN:=(sc .is_path).nd;have n:=Y.n;have c:=zall P w Y G hr;exact (rss_cons (rs_if (RW.rt (rw_or (rt_not (rt_tru (zis (n .isinstance) (n .tuple) (rv 0)))) (rw_or1 (rt_not (rt_chain op_le prim_cmp op_le prim_cmp re_int (zl (n .len) (rv 0)) (re_globI rfl Y.g_MOST_NAMES Y.r_MOST_NAMES)))))) (zr re_bl) rss_nil)
  (zr (re_all rfl (n .all) (ra1 (re_comp (M:= ["part"]) _ rfl (CompOk.of (by kernel_rfl)) (ri_seq (rv 0)) (fun _ _ _ _ _=>rf_nil) (fun _ _ _ _ _=>(zc (c .is_name) rfl (ra1 (rv 0)))))))))
theorem r_is_name(Y:Sys K mg){k:Nat}(G:All P w Y base k):RR P w Y base k .is_name (b_is_name (F k)):=fun cdv A outer s H E f hr=>by have hu:=hr.units;have hN:=(sc .is_name).nd;have n:=Y.n;have c:=zall P w Y G hr;exact (rss_cons (rs_if (RW.rt (rw_or (rt_not (rt_tru (zis (n .isinstance) (n .str) (rv 0)))) (rw_or1 (rt_not (rt_chain op_le prim_cmp op_le prim_cmp re_int (zl (n .len) (rv 0)) (re_globI rfl Y.g_MOST_LETTERS Y.r_MOST_LETTERS)))))) (zr re_bl) rss_nil)
  (zr (re_and (zc (c .is_made_of) rfl (ra_cons (rv 0) (ra1 (re_globS rfl Y.g_SMALL_LETTERS Y.r_SMALL_LETTERS)))) (re_one (re_cmp (op_notInA hu) prim_notIn (rv 0) (re_globT rfl Y.g_COMMAND_WORDS Y.k_COMMAND_WORDS) (by with_unfolding_all rfl))))))
theorem r_l_signs(Y:Sys K mg){k:Nat}(G:All P w Y base k):RR P w Y base k .l_signs (b_l_signs (F k)):=fun cdv A outer s H E f hr=>by have hu:=hr.units;have hN:=(sc .l_signs).nd;have n:=Y.n;have c:=zall P w Y G hr;exact (rss_cons (rst_ hN rst)
  (zr (re_add (rv 0) rst)))
theorem r_l_spoilt(Y:Sys K mg){k:Nat}(G:All P w Y base k):RR P w Y base k .l_spoilt (b_l_spoilt (F k)):=fun cdv A outer s H E f hr=>by have hu:=hr.units;have hN:=(sc .l_spoilt).nd;have n:=Y.n;have c:=zall P w Y G hr;exact (rss_cons (rs_if (RW.rt (rw_and (rt_tru (zis (n .isinstance) (n .list) (rv 0))) (rw_and (rt_cmp op_gt prim_cmp (zl (n .len) (rv 0)) re_int (nomark _)) (rw_and1 (rt_cmp op_gt prim_cmp (re_mod (rv 1) re_int) re_int (nomark _)))))) (rss_cons (rst_ hN (re_mod (re_fdiv (rv 1) re_int) (zl (n .len) (rv 0))))
  (zr (re_add (re_add (re_slice (rv 0) ro_none (ro_some (rv 3))) (re_lst (ra1 (zc (c .l_spoilt) rfl (ra_cons (re_ix hu (rv 0) (rv 3)) (ra_cons (re_fdiv (rv 1) re_int) (ra1 (re_sub (rv 2) re_int)))))))) (re_slice (rv 0) (ro_some (re_add (rv 3) re_int)) ro_none)))) rss_nil)
  (rss_cons (rs_if (RW.rt (rw_and (rt_tru (zis (n .isinstance) (n .dict) (rv 0))) (rw_and (rt_cmp op_gt prim_cmp (zl (n .len) (rv 0)) re_int (nomark _)) (rw_and1 (rt_cmp op_gt prim_cmp (re_mod (rv 1) re_int) re_int (nomark _)))))) (rss_cons (rst_ hN (re_dictM rfl (n .dict) (ra1 (rv 0))))
  (rss_cons (rst_ hN (re_ix hu (re_sorted rfl rfl (n .sorted) (ra1 (rv 4))) (re_mod (re_fdiv (rv 1) re_int) (zl (n .len) (rv 4)))))
  (rss_cons (rs_setD hu (rv 4) (rv 5) (zc (c .l_spoilt) rfl (ra_cons (re_ix hu (rv 4) (rv 5)) (ra_cons (re_fdiv (rv 1) re_int) (ra1 (re_sub (rv 2) re_int))))))
  (zr (re_fz (rv 4)))))) rss_nil)
  (zr (zc (c .l_bad) rfl (ra1 (re_fdiv (rv 1) re_int))))))
theorem r_is_value(Y:Sys K mg){k:Nat}(G:All P w Y base k):RR P w Y base k .is_value (b_is_value (F k)):=fun cdv A outer s H E f hr=>by have hu:=hr.units;have hN:=(sc .is_value).nd;have n:=Y.n;have c:=zall P w Y G hr;exact (zr (zc (c .is_value_within) rfl (ra_cons (rv 0) (ra1 (re_globI rfl Y.g_MOST_DEPTH Y.r_MOST_DEPTH)))))
theorem r_l_fields(Y:Sys K mg){k:Nat}(G:All P w Y base k):RR P w Y base k .l_fields (b_l_fields (F k)):=fun cdv A outer s H E f hr=>by have hu:=hr.units;have hN:=(sc .l_fields).nd;have n:=Y.n;have c:=zall P w Y G hr;exact (rss_cons (rst_ hN (re_lstM ra_nil))
  (rss_cons (rs_while PassesOwn.never (RW.rt (rw_and (rt_tru (zis (n .isinstance) (n .dict) (rv 0))) (rw_and (rt_cmp op_gt prim_cmp (re_mod (rv 1) re_int) re_int (nomark _)) (rw_and1 (rt_cmp op_lt prim_cmp (zl (n .len) (rv 2)) re_int (nomark _)))))) (rss_cons (rst_ hN (re_ix hu (re_sorted rfl rfl (n .sorted) (ra1 (rv 0))) (re_mod (re_fdiv (rv 1) re_int) (zl (n .len) (rv 0)))))
  (rss_cons (rs_expr (re_bm ty_lst PySem.F.plainAttrs_list PySem.F.slot_list_append PySem.F.type_list_append mt_append prim_append (rv 2) (ra1 (rv 3))))
  (rss_cons (rst_ hN (re_ix hu (rv 0) (rv 3)))
  (rss_one (rst_ hN (re_fdiv (rv 1) re_int)))))))
  (rss_cons (rs_if (rte hu (re_mod (rv 1) re_int) re_int) (rss_one (rs_expr (re_bm ty_lst PySem.F.plainAttrs_list PySem.F.slot_list_append PySem.F.type_list_append mt_append prim_append (rv 2) (ra1 (re_ix hu (re_lst (ra_cons rst (ra_cons rst (ra1 rst)))) (re_mod (re_fdiv (rv 1) re_int) re_int)))))) rss_nil)
  (zr (re_tuple rfl (n .tuple) (ra1 (rv 2)))))))
theorem r_looked_up(Y:Sys K mg){k:Nat}(G:All P w Y base k):RR P w Y base k .looked_up (b_looked_up (F k)):=fun cdv A outer s H E f hr=>by have hu:=hr.units;have hN:=(sc .looked_up).nd;have n:=Y.n;have c:=zall P w Y G hr;exact (zr (re_tuple rfl (n .tuple) (ra1 (re_comp (M:= ["thing"]) _ rfl (CompOk.of (by kernel_rfl)) (ri_seq (zc (c .found) rfl (ra_cons (rv 0) (ra1 (rv 1))))) (fun _ _ _ _ _=>rf_nil) (fun _ _ _ _ _=>(zc (c .copied) rfl (ra1 (rv 0))))))))
theorem r_l_looked(Y:Sys K mg){k:Nat}(G:All P w Y base k):RR P w Y base k .l_looked (b_l_looked (F k)):=fun cdv A outer s H E f hr=>by have hu:=hr.units;have hN:=(sc .l_looked).nd;have n:=Y.n;have c:=zall P w Y G hr;exact (rss_cons (rst_ hN (re_lst (ra1 (rv 0))))
  (rss_cons (rs_for PassesOwn.never rfl (ri_seq (rv 1)) (rg_name hN rfl (Or.inl rfl)) (rss_cons (rs_if (RW.rt (rw_or (rt_cmp ((op_eqS hu).or (op_eqD hu)) prim_eqS (rv 2) (re_lst ra_nil) (nomark _)) (rw_or (rt_not (rt_tru (zis (n .isinstance) (n .dict) (re_ix hu (rv 2) re_int)))) (rw_or1 (rt_cmp (op_notInA hu) prim_notIn (rv 3) (re_ix hu (rv 2) re_int) (by with_unfolding_all rfl)))))) (zr (re_lst ra_nil)) rss_nil)
  (rss_one (rst_ hN (re_lst (ra1 (re_ix hu (re_ix hu (rv 2) re_int) (rv 3))))))))
  (zr (rv 2))))
theorem r_is_made_of(Y:Sys K mg){k:Nat}(G:All P w Y base k):RR P w Y base k .is_made_of (b_is_made_of (F k)):=fun cdv A outer s H E f hr=>by have hu:=hr.units;have hN:=(sc .is_made_of).nd;have n:=Y.n;have c:=zall P w Y G hr;exact (rss_cons (rs_for PassesOwn.never rfl (ri_seq (rv 0)) (rg_name hN rfl (Or.inl rfl)) (rss_one (rs_if (rt_cmp (op_notInA hu) prim_notIn (rv 2) (rv 1) (by with_unfolding_all rfl)) (zr re_bl) rss_nil)))
  (zr re_bl))
theorem r_l_bad(Y:Sys K mg){k:Nat}(G:All P w Y base k):RR P w Y base k .l_bad (b_l_bad (F k)):=fun cdv A outer s H E f hr=>by have hu:=hr.units;have hN:=(sc .l_bad).nd;have n:=Y.n;have c:=zall P w Y G hr;exact (rss_cons (rst_ hN (re_lst (ra1 (re_lst (ra1 (re_lst (ra1 (re_lst (ra1 (re_lst (ra1 (re_lst ra_nil))))))))))))
  (rss_cons (rs_if (rte hu (re_mod (rv 0) re_int) re_int) (rss_one (rst_ hN (rdi (rps_cons rst (re_lst (ra1 (rdi (rps_cons rst (re_lst (ra1 (rdi (rps_cons rst (re_lst ra_nil) rps_nil)))) rps_nil)))) rps_nil)))) rss_nil)
  (rss_cons (rst_ hN (re_lst (ra1 (rv 1))))
  (rss_cons (rst_ hN re_newD)
  (rss_cons (rs_for PassesOwn.never rfl (ri_range1 rfl (n .range) (ra1 re_int)) (rg_name hN rfl (Or.inl rfl)) (rss_one (rs_setD hu (rv 3) (re_ix hu rst (rv 4)) (rv 4))))
  (rss_cons (rst_ hN (re_lst (ra_cons (re_mul rst re_int) (ra_cons (re_pow re_int re_int) (ra_cons re_non (ra_cons (re_tup (ra1 rst)) (ra_cons rst (ra_cons (re_mul (re_lst (ra1 re_int)) re_int) (ra_cons (re_fz (rv 3)) (ra_cons (rdi (rps_cons rst re_int rps_nil)) (ra1 (rdi (rps_cons rst re_int rps_nil)))))))))))))
  (rss_cons (rst_ hN (re_lst (ra_cons rst (ra_cons rst (ra_cons rst (ra_cons rst (ra_cons rst (ra_cons rst (ra_cons rst (ra_cons rst (ra_cons rst (ra_cons rst (ra1 rst)))))))))))))
  (rss_cons (rst_ hN (re_add (rv 5) (re_lst (ra_cons (rdi (rps_cons rst re_int rps_nil)) (ra_cons (rdi (rps_cons (re_ix hu (rv 6) (re_mod (re_fdiv (rv 0) re_int) re_int)) re_int rps_nil)) (ra1 (rdi (rps_cons rst re_int (rps_cons rst re_int rps_nil)))))))))
  (zr (re_ix hu (re_add (rv 5) (re_lst (ra_cons (rdi (rps_cons re_int re_int rps_nil)) (ra_cons (rv 2) (ra1 (re_neg (re_pow re_int re_int))))))) (re_mod (rv 0) re_int)))))))))))
theorem r_is_value_within(Y:Sys K mg){k:Nat}(G:All P w Y base k):RR P w Y base k .is_value_within (b_is_value_within (F k)):=fun cdv A outer s H E f hr=>by have hu:=hr.units;have hN:=(sc .is_value_within).nd;have n:=Y.n;have c:=zall P w Y G hr;exact (rss_cons (rs_if (rt_cmp op_lt prim_cmp (rv 1) re_int (nomark _)) (zr re_bl) rss_nil)
  (rss_cons (rs_if (rt_tru (zis (n .isinstance) (n .bool) (rv 0))) (zr re_bl) rss_nil)
  (rss_cons (rs_if (rt_tru (zis (n .isinstance) (n .int) (rv 0))) (zr (zc (c .is_short_number) rfl (ra1 (rv 0)))) rss_nil)
  (rss_cons (rs_if (rt_tru (zis (n .isinstance) (n .list) (rv 0))) (zr (re_and (re_cmp op_le prim_cmp (zl (n .len) (rv 0)) (re_globI rfl Y.g_MOST_THINGS Y.r_MOST_THINGS) (nomark _)) (re_one (zc (c .are_values_within) rfl (ra_cons (rv 0) (ra1 (re_sub (rv 1) re_int))))))) rss_nil)
  (rss_cons (rs_if (rt_tru (zis (n .isinstance) (n .dict) (rv 0))) (zr (zc (c .is_record_within) rfl (ra_cons (rv 0) (ra1 (rv 1))))) rss_nil)
  (zr (zc (c .is_text) rfl (ra_cons (rv 0) (ra1 (re_globI rfl Y.g_MOST_SIGNS Y.r_MOST_SIGNS))))))))))
theorem r_copied(Y:Sys K mg){k:Nat}(G:All P w Y base k):RR P w Y base k .copied (b_copied (F k)):=fun cdv A outer s H E f hr=>by have hu:=hr.units;have hN:=(sc .copied).nd;have n:=Y.n;have c:=zall P w Y G hr;exact (rss_cons (rs_if (rt_tru (zis (n .isinstance) (n .list) (rv 0))) (zr (re_comp (M:= ["thing"]) _ rfl (CompOk.of (by kernel_rfl)) (ri_seq (rv 0)) (fun _ _ _ _ _=>rf_nil) (fun _ _ _ _ _=>(zc (c .copied) rfl (ra1 (rv 0)))))) rss_nil)
  (rss_cons (rs_if (rt_tru (zis (n .isinstance) (n .dict) (rv 0))) (rss_cons (rst_ hN re_newD)
  (rss_cons (rs_for PassesOwn.never rfl (ri_seqD (rv 0)) (rg_name hN rfl (Or.inl rfl)) (rss_one (rs_setD hu (rv 1) (rv 2) (zc (c .copied) rfl (ra1 (re_ix hu (rv 0) (rv 2)))))))
  (zr (re_fz (rv 1))))) rss_nil)
  (zr (rv 0))))
theorem r_found(Y:Sys K mg){k:Nat}(G:All P w Y base k):RR P w Y base k .found (b_found (F k)):=fun cdv A outer s H E f hr=>by have hu:=hr.units;have hN:=(sc .found).nd;have n:=Y.n;have c:=zall P w Y G hr;exact (rss_cons (rst_ hN (rv 0))
  (rss_cons (rs_for PassesOwn.never rfl (ri_seq (rv 1)) (rg_name hN rfl (Or.inl rfl)) (rss_cons (rs_if (RW.rt (rw_or (rt_not (rt_tru (zis (n .isinstance) (n .dict) (rv 2)))) (rw_or1 (rt_cmp (op_notInA hu) prim_notIn (rv 3) (rv 2) (by with_unfolding_all rfl))))) (zr (re_tup ra_nil)) rss_nil)
  (rss_one (rst_ hN (re_ix hu (rv 2) (rv 3))))))
  (zr (re_tup (ra1 (rv 2))))))
theorem r_is_short_number(Y:Sys K mg){k:Nat}(G:All P w Y base k):RR P w Y base k .is_short_number (b_is_short_number (F k)):=fun cdv A outer s H E f hr=>by have hu:=hr.units;have hN:=(sc .is_short_number).nd;have n:=Y.n;have c:=zall P w Y G hr;exact (zr (re_cmp op_lt prim_cmp (re_abs rfl (n .abs) (ra1 (rv 0))) (re_pow re_int re_int) (nomark _)))
theorem r_is_record_within(Y:Sys K mg){k:Nat}(G:All P w Y base k):RR P w Y base k .is_record_within (b_is_record_within (F k)):=fun cdv A outer s H E f hr=>by have hu:=hr.units;have hN:=(sc .is_record_within).nd;have n:=Y.n;have c:=zall P w Y G hr;exact (rss_cons (rs_if (rt_cmp op_gt prim_cmp (zl (n .len) (rv 0)) (re_globI rfl Y.g_MOST_FIELDS Y.r_MOST_FIELDS) (nomark _)) (zr re_bl) rss_nil)
  (rss_cons (rs_for PassesOwn.never rfl (ri_seqD (rv 0)) (rg_name hN rfl (Or.inl rfl)) (rss_one (rs_if (rt_not (rt_tru (zc (c .is_name) rfl (ra1 (rv 2))))) (zr re_bl) rss_nil)))
  (zr (zc (c .are_values_within) rfl (ra_cons (re_vals rfl rfl (n .list) (rv 0)) (ra1 (re_sub (rv 1) re_int)))))))
theorem r_are_values_within(Y:Sys K mg){k:Nat}(G:All P w Y base k):RR P w Y base k .are_values_within (b_are_values_within (F k)):=fun cdv A outer s H E f hr=>by have hu:=hr.units;have hN:=(sc .are_values_within).nd;have n:=Y.n;have c:=zall P w Y G hr;exact (rss_cons (rs_for PassesOwn.never rfl (ri_seq (rv 0)) (rg_name hN rfl (Or.inl rfl)) (rss_one (rs_if (rt_not (rt_tru (zc (c .is_value_within) rfl (ra_cons (rv 2) (ra1 (rv 1)))))) (zr re_bl) rss_nil)))
  (zr re_bl))
theorem all_nil(Y:Sys K mg):All P w Y base 0:=fun f=>⟨fun vs H Q E h=>by obtain ⟨_,_,_,_,_,_,e,_⟩:=h;simp [F] at e,fun A outer s H args us vs Q E _ _ _ _ h=>by obtain ⟨_,_,_,_,_,_,e,_⟩:=h;simp [F] at e⟩
theorem all_step(Y:Sys K mg){k:Nat}(G:All P w Y base k)(G':All P w Y base (k - 1)):All P w Y base (k+1):=fun f=>by
  cases f with
  | law=>exact fp P w Y (r_law P w Y G)
  | l_names_right=>exact fp P w Y (r_l_names_right P w Y G)
  | l_value_by=>exact fp P w Y (r_l_value_by P w Y G)
  | l_deepest=>exact fp P w Y (r_l_deepest P w Y G)
  | l_needed=>
   have go:=fp (k:=k) P w Y (r_l_needed (base:=base) P w Y G (allX P w Y k G') (allH P w Y k))
   cases k<;>exact go
  | l_refused=>exact fp P w Y (r_l_refused P w Y G)
  | l_mixed=>exact fp P w Y (r_l_mixed P w Y G)
  | l_looks=>exact fp P w Y (r_l_looks P w Y G)
  | l_cell_at=>exact fp P w Y (r_l_cell_at P w Y G)
  | l_name_by=>exact fp P w Y (r_l_name_by P w Y G)
  | l_odd_name=>exact fp P w Y (r_l_odd_name P w Y G)
  | l_is=>exact fp P w Y (r_l_is P w Y G)
  | is_text=>exact fp P w Y (r_is_text P w Y G)
  | is_path=>exact fp P w Y (r_is_path P w Y G)
  | is_name=>exact fp P w Y (r_is_name P w Y G)
  | l_signs=>exact fp P w Y (r_l_signs P w Y G)
  | need_values=>exact ⟨fun vs H Q E h=>by obtain ⟨_,_,_,_,_,_,e,_⟩:=h;simp [F] at e,fun A outer s H args us vs Q E _ _ _ _ h=>by obtain ⟨_,_,_,_,_,_,e,_⟩:=h;simp [F] at e⟩
  | l_class=>exact ⟨fun vs H Q E h=>by obtain ⟨_,_,_,_,_,_,e,_⟩:=h;simp [F] at e,fun A outer s H args us vs Q E _ _ _ _ h=>by obtain ⟨_,_,_,_,_,_,e,_⟩:=h;simp [F] at e⟩
  | l_spoilt=>exact fp P w Y (r_l_spoilt P w Y G)
  | is_value=>exact fp P w Y (r_is_value P w Y G)
  | l_fields=>exact fp P w Y (r_l_fields P w Y G)
  | looked_up=>exact fp P w Y (r_looked_up P w Y G)
  | l_looked=>exact fp P w Y (r_l_looked P w Y G)
  | is_made_of=>exact fp P w Y (r_is_made_of P w Y G)
  | l_bad=>exact fp P w Y (r_l_bad P w Y G)
  | is_value_within=>exact fp P w Y (r_is_value_within P w Y G)
  | copied=>exact fp P w Y (r_copied P w Y G)
  | found=>exact fp P w Y (r_found P w Y G)
  | is_short_number=>exact fp P w Y (r_is_short_number P w Y G)
  | is_record_within=>exact fp P w Y (r_is_record_within P w Y G)
  | are_values_within=>exact fp P w Y (r_are_values_within P w Y G)
theorem all_two(Y:Sys K mg):∀ k,All P w Y base k∧All P w Y base (k - 1)
 | 0=>⟨all_nil P w Y,all_nil P w Y⟩
 | k+1=>⟨all_step P w Y (all_two Y k).1 (all_two Y k).2,(all_two Y k).1⟩
theorem all_ok(Y:Sys K mg)(k:Nat):All P w Y base k:=(all_two P w Y k).1
end
theorem fq{K:W.Frag}{nm ql:Str}{st:Stmt}{ps:List Str}{f:Addr}{od an:Option Addr}{sl:Array (Option Value)}{oc kV dc pm cd ct:Value}(a:W.nsIn K mainGlobals nm=some (some (.ref f)))(l:K.lookup f=some ⟨oc,od,.func (W.fnOf nm ql (defArgs st) (defBody st) (defScope st) .none kV dc pm an cd ct),sl⟩)(c:W.codeIn K cd ql=true)(k:W.keepIn K (.ref f)=true)(b:∀ (kV doc pm:Value) (an:Option Addr) (cdv ct:Value) (us:List Value),us.length=ps.length→bindArgs (W.fnOf nm ql (defArgs st) (defBody st) (defScope st) .none kV doc pm an cdv ct) ⟨us,[]⟩=pure (ps.zip us)):∃ a fd,W.nsIn K mainGlobals nm=some (some (.ref a))∧Fun K nm ql st a fd∧Binds K fd ps []:=⟨f,_,a,fun_mk l c k,(fun_mk l c k).binds b⟩
theorem all_mk{l:W.OpenLaw}{w:World}{K:W.Frag}{h:Heap}{mg:Str→Option Value}{fa:Addr}(hlaw:∀ ns:List Int,ns.length≤63→F 30 .law [.giv (ns.map PV.int)]= .ok (.bl true))(X:K.In h)(G:h.Ns mainGlobals mg)(hfa:mg "law"=some (.ref fa))
  {C_FormError:Addr}
  {C_BadWay:Addr}
  {C_BadValue:Addr}
  {C_BadValues:Addr}
  {C_TooMany:Addr}
  {C_Clash:Addr}
  {C_BadText:Addr}
  {C_BadName:Addr}
  {C_Unclear:Addr}
  {C_NoFill:Addr}
  {t_MOST_DEPTH:Tok}
  {t_MOST_FIELDS:Tok}
  {t_MOST_LETTERS:Tok}
  {t_MOST_NAMES:Tok}
  {t_MOST_SIGNS:Tok}
  {t_MOST_THINGS:Tok}
  {t_SIGNS:Tok}
  {t_SMALL_LETTERS:Tok}
  {A_COMMAND_WORDS:Addr} {n_COMMAND_WORDS:Nat} {sl_COMMAND_WORDS:Array (Option Value)} {od_COMMAND_WORDS:Option Addr} {t_COMMAND_WORDS_0:Tok} {t_COMMAND_WORDS_1:Tok} {t_COMMAND_WORDS_2:Tok} {t_COMMAND_WORDS_3:Tok} {t_COMMAND_WORDS_4:Tok} {t_COMMAND_WORDS_5:Tok} {t_COMMAND_WORDS_6:Tok} {t_COMMAND_WORDS_7:Tok} {t_COMMAND_WORDS_8:Tok} {t_COMMAND_WORDS_9:Tok} {t_COMMAND_WORDS_10:Tok}
  (aC_FormError:W.nsIn K mainGlobals "FormError"=some (some (.ref C_FormError)))
  (aC_BadWay:W.nsIn K mainGlobals "BadWay"=some (some (.ref C_BadWay)))
  (aC_BadValue:W.nsIn K mainGlobals "BadValue"=some (some (.ref C_BadValue)))
  (aC_BadValues:W.nsIn K mainGlobals "BadValues"=some (some (.ref C_BadValues)))
  (aC_TooMany:W.nsIn K mainGlobals "TooMany"=some (some (.ref C_TooMany)))
  (aC_Clash:W.nsIn K mainGlobals "Clash"=some (some (.ref C_Clash)))
  (aC_BadText:W.nsIn K mainGlobals "BadText"=some (some (.ref C_BadText)))
  (aC_BadName:W.nsIn K mainGlobals "BadName"=some (some (.ref C_BadName)))
  (aC_Unclear:W.nsIn K mainGlobals "Unclear"=some (some (.ref C_Unclear)))
  (aC_NoFill:W.nsIn K mainGlobals "NoFill"=some (some (.ref C_NoFill)))
  (cg1:W.specialIn K (.builtin "object.__class__") "__get__"=some (some (.builtin "getset_descriptor.__get__")))
  (cg2:W.takesIn K (.builtin "object.__class__")=some true)
  (kc1_BadValues:W.findIn K (.ref C_BadValues) "__class__"=some (some (.builtin "object.__class__")))
  (kc2_BadValues:W.mroIn K C_BadValues (.type "object")=some true)
  (kc3_BadValues:(W.clsIn K C_BadValues).isSome=true)
  (ki_BadValues_BadName:W.kitOne K (.ref C_BadValues) (.ref C_BadName)=some false)
  (ki_BadValues_BadText:W.kitOne K (.ref C_BadValues) (.ref C_BadText)=some false)
  (ki_BadValues_BadValue:W.kitOne K (.ref C_BadValues) (.ref C_BadValue)=some false)
  (ki_BadValues_BadValues:W.kitOne K (.ref C_BadValues) (.ref C_BadValues)=some true)
  (ki_BadValues_BadWay:W.kitOne K (.ref C_BadValues) (.ref C_BadWay)=some false)
  (ki_BadValues_Clash:W.kitOne K (.ref C_BadValues) (.ref C_Clash)=some false)
  (ki_BadValues_NoFill:W.kitOne K (.ref C_BadValues) (.ref C_NoFill)=some false)
  (ki_BadValues_TooMany:W.kitOne K (.ref C_BadValues) (.ref C_TooMany)=some false)
  (ki_BadValues_Unclear:W.kitOne K (.ref C_BadValues) (.ref C_Unclear)=some false)
  (ki_BadValues_ValueError:W.kitOne K (.ref C_BadValues) (.type "ValueError")=some true)
  (xc1_BadValues:W.findIn K (.ref C_BadValues) "__getattribute__"=some (some (.builtin "BaseException.__getattribute__")))
  (xc2_BadValues:W.findIn K (.ref C_BadValues) "__getattr__"=some none)
  (xc3_BadValues:W.mroIn K C_BadValues (.type "BaseException")=some true)
  (xr_BadValues:W.excIn K C_BadValues [.type "ValueError",.type "Exception",.type "BaseException",.type "object"] "ValueError.__new__"=true)
  (ex_BadValues_FormError:W.exmOne K (.ref C_BadValues) (.ref C_FormError)=some true)
  (hf:∀ f:Fn,∃ a fd,W.nsIn K mainGlobals (nmOf f)=some (some (.ref a))∧Fun K (nmOf f) (qlOf f) (stOf f) a fd∧Binds K fd (psOf f) [])
  (g_MOST_DEPTH:W.nsIn K mainGlobals "MOST_DEPTH"=some (some (.int 6 t_MOST_DEPTH)))
  (g_MOST_FIELDS:W.nsIn K mainGlobals "MOST_FIELDS"=some (some (.int 8 t_MOST_FIELDS)))
  (g_MOST_LETTERS:W.nsIn K mainGlobals "MOST_LETTERS"=some (some (.int 8 t_MOST_LETTERS)))
  (g_MOST_NAMES:W.nsIn K mainGlobals "MOST_NAMES"=some (some (.int 4 t_MOST_NAMES)))
  (g_MOST_SIGNS:W.nsIn K mainGlobals "MOST_SIGNS"=some (some (.int 400 t_MOST_SIGNS)))
  (g_MOST_THINGS:W.nsIn K mainGlobals "MOST_THINGS"=some (some (.int 40 t_MOST_THINGS)))
  (g_SIGNS:W.nsIn K mainGlobals "SIGNS"=some (some (.str "\n !\"#$&'()*+,-./0123456789:;<=>?@ABCDEFGHIJKLMNOPQRSTUVWXYZ[\\]^_`abcdefghijklmnopqrstuvwxyz{|}~" t_SIGNS)))
  (g_SMALL_LETTERS:W.nsIn K mainGlobals "SMALL_LETTERS"=some (some (.str "abcdefghijklmnopqrstuvwxyz" t_SMALL_LETTERS)))
  (g_COMMAND_WORDS:W.nsIn K mainGlobals "COMMAND_WORDS"=some (some (.ref A_COMMAND_WORDS)))
  (k_COMMAND_WORDS:K.lookup A_COMMAND_WORDS=some ⟨.type "tuple",od_COMMAND_WORDS,.seq #[.str "as" t_COMMAND_WORDS_0,.str "between" t_COMMAND_WORDS_1,.str "body" t_COMMAND_WORDS_2,.str "else" t_COMMAND_WORDS_3,.str "end" t_COMMAND_WORDS_4,.str "for" t_COMMAND_WORDS_5,.str "if" t_COMMAND_WORDS_6,.str "in" t_COMMAND_WORDS_7,.str "piece" t_COMMAND_WORDS_8,.str "use" t_COMMAND_WORDS_9,.str "with" t_COMMAND_WORDS_10] n_COMMAND_WORDS,sl_COMMAND_WORDS⟩)
  (hn:∀ i:Nt,W.nsIn K mainGlobals (ntOf i)=some none):
  ∃ fd:FuncData,(∀ (s:Shared) (v:Value),BindsTo s fd ⟨[v],[]⟩ [("_law_script",v)])∧∀ base:Heap,K.In base→base.Ns mainGlobals mg→FnOk l.prog w K mg base CX0 30 fa fd ["_law_script"] (spLaw K):=by
 let Y:Sys K mg:= {
  adr:=fun f=>(hf f).choose
  fd:=fun f=>(hf f).choose_spec.choose
  ok:=fun f=>(hf f).choose_spec.choose_spec.2.1
  bi:=fun f=>(hf f).choose_spec.choose_spec.2.2
  m:=fun f=>W.mg_of X G (hf f).choose_spec.choose_spec.1
  n:=fun i=>W.mg_none_of X G (hn i)
  kls:=fun i=>match i with | 0=>C_FormError | 1=>C_BadWay | 2=>C_BadValue | 3=>C_BadValues | 4=>C_TooMany | 5=>C_Clash | 6=>C_BadText | 7=>C_BadName | 8=>C_Unclear | 9=>C_NoFill | _=>0
  mc_FormError:=W.mg_of X G aC_FormError
  mc_BadWay:=W.mg_of X G aC_BadWay
  mc_BadValue:=W.mg_of X G aC_BadValue
  mc_BadValues:=W.mg_of X G aC_BadValues
  mc_TooMany:=W.mg_of X G aC_TooMany
  mc_Clash:=W.mg_of X G aC_Clash
  mc_BadText:=W.mg_of X G aC_BadText
  mc_BadName:=W.mg_of X G aC_BadName
  mc_Unclear:=W.mg_of X G aC_Unclear
  mc_NoFill:=W.mg_of X G aC_NoFill
  xr_BadValues:=xr_BadValues
  ex_BadValues_FormError:=ex_BadValues_FormError
  cg_:=⟨cg1,cg2⟩
  kc_BadValues:=⟨kc1_BadValues,kc2_BadValues,kc3_BadValues⟩
  xc_BadValues:=⟨xc1_BadValues,xc2_BadValues,xc3_BadValues⟩
  ki_BadValues_BadName:=ki_BadValues_BadName
  ki_BadValues_BadText:=ki_BadValues_BadText
  ki_BadValues_BadValue:=ki_BadValues_BadValue
  ki_BadValues_BadValues:=ki_BadValues_BadValues
  ki_BadValues_BadWay:=ki_BadValues_BadWay
  ki_BadValues_Clash:=ki_BadValues_Clash
  ki_BadValues_NoFill:=ki_BadValues_NoFill
  ki_BadValues_TooMany:=ki_BadValues_TooMany
  ki_BadValues_Unclear:=ki_BadValues_Unclear
  ki_BadValues_ValueError:=ki_BadValues_ValueError
  u_MOST_DEPTH:=_
  g_MOST_DEPTH:=W.mg_of X G g_MOST_DEPTH
  r_MOST_DEPTH:=⟨t_MOST_DEPTH,by rfl⟩
  u_MOST_FIELDS:=_
  g_MOST_FIELDS:=W.mg_of X G g_MOST_FIELDS
  r_MOST_FIELDS:=⟨t_MOST_FIELDS,by rfl⟩
  u_MOST_LETTERS:=_
  g_MOST_LETTERS:=W.mg_of X G g_MOST_LETTERS
  r_MOST_LETTERS:=⟨t_MOST_LETTERS,by rfl⟩
  u_MOST_NAMES:=_
  g_MOST_NAMES:=W.mg_of X G g_MOST_NAMES
  r_MOST_NAMES:=⟨t_MOST_NAMES,by rfl⟩
  u_MOST_SIGNS:=_
  g_MOST_SIGNS:=W.mg_of X G g_MOST_SIGNS
  r_MOST_SIGNS:=⟨t_MOST_SIGNS,by rfl⟩
  u_MOST_THINGS:=_
  g_MOST_THINGS:=W.mg_of X G g_MOST_THINGS
  r_MOST_THINGS:=⟨t_MOST_THINGS,by rfl⟩
  u_SIGNS:=_
  g_SIGNS:=W.mg_of X G g_SIGNS
  r_SIGNS:=⟨t_SIGNS,by exact congrArg (fun z=>Value.str z t_SIGNS) (by kernel_rfl)⟩
  u_SMALL_LETTERS:=_
  g_SMALL_LETTERS:=W.mg_of X G g_SMALL_LETTERS
  r_SMALL_LETTERS:=⟨t_SMALL_LETTERS,by exact congrArg (fun z=>Value.str z t_SMALL_LETTERS) (by kernel_rfl)⟩
  a_COMMAND_WORDS:=A_COMMAND_WORDS
  g_COMMAND_WORDS:=W.mg_of X G g_COMMAND_WORDS
  k_COMMAND_WORDS:=⟨_,_,_,k_COMMAND_WORDS,rfl,rfl,by show 11≤sizeLine;decide,(.cons ⟨t_COMMAND_WORDS_0,congrArg (fun z=>Value.str z t_COMMAND_WORDS_0) (by kernel_rfl)⟩ (.cons ⟨t_COMMAND_WORDS_1,congrArg (fun z=>Value.str z t_COMMAND_WORDS_1) (by kernel_rfl)⟩ (.cons ⟨t_COMMAND_WORDS_2,congrArg (fun z=>Value.str z t_COMMAND_WORDS_2) (by kernel_rfl)⟩ (.cons ⟨t_COMMAND_WORDS_3,congrArg (fun z=>Value.str z t_COMMAND_WORDS_3) (by kernel_rfl)⟩ (.cons ⟨t_COMMAND_WORDS_4,congrArg (fun z=>Value.str z t_COMMAND_WORDS_4) (by kernel_rfl)⟩ (.cons ⟨t_COMMAND_WORDS_5,congrArg (fun z=>Value.str z t_COMMAND_WORDS_5) (by kernel_rfl)⟩ (.cons ⟨t_COMMAND_WORDS_6,congrArg (fun z=>Value.str z t_COMMAND_WORDS_6) (by kernel_rfl)⟩ (.cons ⟨t_COMMAND_WORDS_7,congrArg (fun z=>Value.str z t_COMMAND_WORDS_7) (by kernel_rfl)⟩ (.cons ⟨t_COMMAND_WORDS_8,congrArg (fun z=>Value.str z t_COMMAND_WORDS_8) (by kernel_rfl)⟩ (.cons ⟨t_COMMAND_WORDS_9,congrArg (fun z=>Value.str z t_COMMAND_WORDS_9) (by kernel_rfl)⟩ (.cons ⟨t_COMMAND_WORDS_10,congrArg (fun z=>Value.str z t_COMMAND_WORDS_10) (by kernel_rfl)⟩ .nil)))))))))))⟩ }
 have e:=(Y.m .law).symm.trans hfa
 obtain rfl:Y.adr .law=fa:=by injection e with e1;injection e1
 exact ⟨Y.fd .law,fun s v=>by obtain ⟨_,_,_,_,_,_,_,_,_,e,_⟩:=(Y.ok .law).ex;rw [e];exact .of_eq rfl,fun base _ _=>(all_ok l.prog w Y 30 .law).imp (spLaw_imp hlaw)⟩
end K4
namespace K4
open PySem L2 L3
local macro_rules
 | `(tactic| simp only [EV])=>`(tactic| simp only [Res.bind_ok, Res.bind_exc, Res.bind_bad, eThen_ok, bThen_ok, lThen_ok, eThen_bad, bThen_bad, lThen_bad, List.getElem?_cons_zero, List.getElem?_cons_succ, List.getElem?_nil, List.set_cons_zero, List.set_cons_succ, List.map_cons, List.map_nil, List.append_nil, List.nil_append, List.cons_append, if_true, if_false, ite_true, ite_false, reduceIte, Bool.not_true, Bool.not_false, Bool.true_and, Bool.false_and, Bool.and_true, Bool.and_false, Bool.true_or, Bool.false_or, Bool.or_true, Bool.or_false, Bool.not_not, eq_self_iff_true, true_and, and_true, Bool.false_eq_true, reduceCtorEq, List.length_cons, List.length_nil, List.replicate, Nat.sub_self, Nat.zero_add, Option.isSome_some, Option.isSome_none, Nat.reduceAdd, Nat.reduceLeDiff, Int.reduceLT, Int.reduceLE, decide_true, decide_false, szl, Int.reduceNeg, Int.reducePow, Nat.reducePow, Int.reduceAdd, Int.reduceMul, Int.reduceSub, Nat.reduceSub, and_self, Nat.reduceMul, Nat.reduceEqDiff, ev_var, ev_K, ev_c1, ev_c2, ev_cN, ev_nil, ev_cons, ev_and, ev_or, ev_chain, ev_sl, ev_oNone, ev_oSome, ev_cM, ev_call, ev_tTru, ev_tCmp, ev_tNot, ev_tAnd, ev_tOr, ev_range1, ev_aSeq, ev_aComp, ev_sNil, ev_sSeq, ev_sRet, ev_sDrop, ev_sIf, ev_sSet, ev_sFor, ev_loop0, ev_gNm, dr_int, dr_bl, dr_str, dr_non, dr_tup, dr_lst, dr_giv, dr_dct, dr_ref0, add_ii, add_ss, add_tt, add_ll, sub_ii, mul_ii, mul_si, pI_ii, neg_i, cmp_ii, ix_si, ix_ti, ix_li, ix_gi, sl_s, len_s, len_t, len_l, len_g, lst_mk, lstM_mk, tup_mk, okL_mk, int_b, abs_i, seqIt_s, seqIt_t, seqIt_l, isStr_s, frz_int, frz_bl, frz_non, frz_str, frzs_nil, frzs_cons, notin_ss, tru_b, isin_s_str, isin_s_int, isin_s_bool, isin_s_list, isin_s_dict, isin_i_int, isin_i_bool, isin_i_list, isin_i_dict, isin_b_bool, isin_b_list, isin_b_dict, isin_n_str, isin_n_int, isin_n_bool, isin_n_list, isin_n_dict, isin_t_str, isin_t_int, isin_t_bool, isin_t_list, isin_t_tuple, isin_t_dict, isin_l_int, isin_l_bool, isin_l_list, isin_l_dict, isin_d_int, isin_d_bool, isin_d_list, isin_d_dict, tuple_l, sl_l, ev_fz, ev_newD, ev_setD, ev_aSeqD, ev_vals, ev_pop, seqD_d, seqD_t, vals_d, len_d, dictM_d, ix_ds, ix_di, in_ds, addE_ii, addE_ss, dr_d0, dr_z0, dr_d1, set_d0, set_d1, ix_d0, len_d0, live0, live1])
 | `(tactic| simp only [EV, $xs,*])=>`(tactic| simp only [Res.bind_ok, Res.bind_exc, Res.bind_bad, eThen_ok, bThen_ok, lThen_ok, eThen_bad, bThen_bad, lThen_bad, List.getElem?_cons_zero, List.getElem?_cons_succ, List.getElem?_nil, List.set_cons_zero, List.set_cons_succ, List.map_cons, List.map_nil, List.append_nil, List.nil_append, List.cons_append, if_true, if_false, ite_true, ite_false, reduceIte, Bool.not_true, Bool.not_false, Bool.true_and, Bool.false_and, Bool.and_true, Bool.and_false, Bool.true_or, Bool.false_or, Bool.or_true, Bool.or_false, Bool.not_not, eq_self_iff_true, true_and, and_true, Bool.false_eq_true, reduceCtorEq, List.length_cons, List.length_nil, List.replicate, Nat.sub_self, Nat.zero_add, Option.isSome_some, Option.isSome_none, Nat.reduceAdd, Nat.reduceLeDiff, Int.reduceLT, Int.reduceLE, decide_true, decide_false, szl, Int.reduceNeg, Int.reducePow, Nat.reducePow, Int.reduceAdd, Int.reduceMul, Int.reduceSub, Nat.reduceSub, and_self, Nat.reduceMul, Nat.reduceEqDiff, ev_var, ev_K, ev_c1, ev_c2, ev_cN, ev_nil, ev_cons, ev_and, ev_or, ev_chain, ev_sl, ev_oNone, ev_oSome, ev_cM, ev_call, ev_tTru, ev_tCmp, ev_tNot, ev_tAnd, ev_tOr, ev_range1, ev_aSeq, ev_aComp, ev_sNil, ev_sSeq, ev_sRet, ev_sDrop, ev_sIf, ev_sSet, ev_sFor, ev_loop0, ev_gNm, dr_int, dr_bl, dr_str, dr_non, dr_tup, dr_lst, dr_giv, dr_dct, dr_ref0, add_ii, add_ss, add_tt, add_ll, sub_ii, mul_ii, mul_si, pI_ii, neg_i, cmp_ii, ix_si, ix_ti, ix_li, ix_gi, sl_s, len_s, len_t, len_l, len_g, lst_mk, lstM_mk, tup_mk, okL_mk, int_b, abs_i, seqIt_s, seqIt_t, seqIt_l, isStr_s, frz_int, frz_bl, frz_non, frz_str, frzs_nil, frzs_cons, notin_ss, tru_b, isin_s_str, isin_s_int, isin_s_bool, isin_s_list, isin_s_dict, isin_i_int, isin_i_bool, isin_i_list, isin_i_dict, isin_b_bool, isin_b_list, isin_b_dict, isin_n_str, isin_n_int, isin_n_bool, isin_n_list, isin_n_dict, isin_t_str, isin_t_int, isin_t_bool, isin_t_list, isin_t_tuple, isin_t_dict, isin_l_int, isin_l_bool, isin_l_list, isin_l_dict, isin_d_int, isin_d_bool, isin_d_list, isin_d_dict, tuple_l, sl_l, ev_fz, ev_newD, ev_setD, ev_aSeqD, ev_vals, ev_pop, seqD_d, seqD_t, vals_d, len_d, dictM_d, ix_ds, ix_di, in_ds, addE_ii, addE_ss, dr_d0, dr_z0, dr_d1, set_d0, set_d1, ix_d0, len_d0, live0, live1, $xs,*])
def CW:List (List Nat):= [[97,115],[98,101,116,119,101,101,110],[98,111,100,121],[101,108,115,101],[101,110,100],[102,111,114],[105,102],[105,110],[112,105,101,99,101],[117,115,101],[119,105,116,104]]
theorem CW_lt:∀ l∈CW,∀ c∈l,c<1114112:=by decide
theorem CW_tv:tv_COMMAND_WORDS=CW:=rfl
theorem AZ_lt:∀ c∈q_c3fcd3,c<1114112:=by decide
def nameOk(w:List Nat):Bool:=decide (1≤w.length∧w.length≤8)&&w.all q_c3fcd3.contains&&!decide (w∈CW)
abbrev Lt(w:List Nat):Prop:=∀ c∈w,c<1114112
theorem made_loop(C:Fn→List PV→Out)(t:PV)(al:List Nat)(h:List L3.PO):∀ (l:List Nat) (o:Option PV),∃ o',loopS (gNm 2) (w_is_made_of_1 C) (l.map fun c=>PV.str [c]) [some t,some (.str al),o] h=if l.all al.contains=true then .nx [some t,some (.str al),o'] h else .rt (.bl false) h
 | [],o=>⟨o,by simp⟩
 | c::r,o=>by
  obtain ⟨o',e⟩:=made_loop C t al h r (some (.str [c]))
  refine ⟨o',?_⟩
  rw [List.map_cons,ev_loop,List.all_cons]
  cases hc:al.contains c with
  | true=>
   simp only [EV,w_is_made_of_1,inStr_one,hc]
   simpa only [w_is_made_of_1,Bool.true_and] using e
  | false=>simp only [EV,w_is_made_of_1,inStr_one,hc]
theorem made(k:Nat)(l al:List Nat):F (k+1) .is_made_of [.str l,.str al]= .ok (.bl (l.all al.contains)):=by
 obtain ⟨o',e⟩:=made_loop (F k) (.str l) al [] l none
 show runF (b_is_made_of (F k)) 2 3 [.str l,.str al]=_
 cases q:l.all al.contains with
 | true=>simp only [EV,runF,b_is_made_of,e,q,finO]
 | false=>simp only [EV,runF,b_is_made_of,e,q,finO]
theorem is_name(k:Nat)(w:List Nat)(hz:w.length≤16777216)(hw:Lt w):F (k+2) .is_name [.str w]= .ok (.bl (nameOk w)):=by
 show runF (b_is_name (F (k+1))) 1 1 [.str w]=_
 have m:=made k w q_c3fcd3
 have n:=nin_t hw CW_lt
 unfold nameOk
 by_cases h1:1≤w.length
 ·have d1:decide ((1:Int)≤(w.length:Int))=true:=decide_eq_true (by omega)
  by_cases h2:w.length≤8
  ·have d2:decide ((w.length:Int)≤8)=true:=decide_eq_true (by omega)
   rw [decide_eq_true (p:=1≤w.length∧w.length≤8) ⟨h1,h2⟩]
   cases q:w.all q_c3fcd3.contains with
   | true=>simp only [EV,runF,b_is_name,hz,d1,d2,callO_def,m,q,CW_tv,n,finO]
   | false=>simp only [EV,runF,b_is_name,hz,d1,d2,callO_def,m,q,finO]
  ·have d2:decide ((w.length:Int)≤8)=false:=decide_eq_false (by omega)
   rw [decide_eq_false (p:=1≤w.length∧w.length≤8) (fun z=>h2 z.2)]
   simp only [EV,runF,b_is_name,hz,d1,d2,finO]
 ·have d1:decide ((1:Int)≤(w.length:Int))=false:=decide_eq_false (by omega)
  rw [decide_eq_false (p:=1≤w.length∧w.length≤8) (fun z=>h1 z.1)]
  simp only [EV,runF,b_is_name,hz,d1,finO]
theorem is_text_s(k:Nat)(l:List Nat)(n:Int)(hl:l.length≤16777216):F (k+2) .is_text [.str l,.int n]= .ok (.bl (decide ((l.length:Int)≤n)&&l.all q_e84fa8.contains)):=by
 have e:=made k l q_e84fa8
 show runF (b_is_text (F (k+1))) 2 2 [.str l,.int n]=_
 cases q:decide ((l.length:Int)≤n) with
 | true=>
  simp only [EV,runF,b_is_text,callO_def,hl,q,e,finO]
 | false=>
  simp only [EV,runF,b_is_text,callO_def,hl,q,e,finO]
def cellA(ns:List Int)(j:Nat):Int:=ns.getD j 0
theorem cell_at(k:Nat)(ns:List Int)(j:Nat):F (k+1) .l_cell_at [.giv (ns.map PV.int),.int j]= .ok (.int (cellA ns j)):=by
 show runF (b_l_cell_at (F k)) 2 2 [.giv (ns.map PV.int),.int j]=_
 by_cases q:j<ns.length
 ·have e:atI (ns.map PV.int) (j:Int)=some (.int (cellA ns j)):=by
   refine atI_at (by omega) ?_
   unfold cellA
   simp [q]
  have q':decide ((j:Int)<((ns.map PV.int).length:Int))=true:=by simpa using q
  simp only [EV,runF,b_l_cell_at,q',e,finO]
 ·have q':decide ((j:Int)<((ns.map PV.int).length:Int))=false:=by simpa using q
  have e:cellA ns j=0:=by unfold cellA;rw [List.getD_eq_getElem?_getD,List.getElem?_eq_none (by omega)];rfl
  simp only [EV,runF,b_l_cell_at,q',e,finO]
def mix(c j:Int):Int:=(c+31 * j * j+7) * 48271 % 2147483647
theorem mix_range(c j:Int):0≤mix c j∧mix c j<2147483647:=⟨Int.emod_nonneg _ (by decide),Int.emod_lt_of_pos _ (by decide)⟩
theorem mixed(k:Nat)(c:Int)(j:Nat)(hj:j≤1000000):F (k+1) .l_mixed [.int c,.int j]= .ok (.int (mix c j)):=by
 show runF (b_l_mixed (F k)) 2 2 [.int c,.int j]=_
 have m1:mulC 31 (j:Int)=true:=mulC_l rfl
 have m2:mulC (31 * (j:Int)) (j:Int)=true:=mulC_r (bel_iff.mpr (by omega))
 have m3:∀ x:Int,mulC x 48271=true:=fun x=>mulC_r rfl
 simp only [EV,runF,b_l_mixed,m1,m2,m3,finO,decide_true,Int.reduceLT]
 rfl
theorem l_signs_eq(k:Nat):F (k+1) .l_signs []= .ok (.str q_e84fa8):=by
 show runF (b_l_signs (F k)) 0 1 []=_
 have e1:q_d08fa1.length+q_dae21e.length≤16777216:=by decide
 have e2:q_d08fa1++q_dae21e=q_e84fa8:=by decide+kernel
 simp only [EV,runF,b_l_signs,e1,e2,finO]
theorem l_is(k:Nat)(a b:Bool):F (k+1) .l_is [.bl a,.bl b]= .ok (.bl (a==b)):=by
 cases a<;>cases b<;>kernel_rfl
def keyOk:PK→Bool
 | .inl _=>false
 | .inr l=>nameOk l
def isV:Nat→PV→Bool
 | 0,_=>false
 | d+1,p=>match p with
  | .bl _=>true
  | .int i=>decide ((if i<0 then -i else i)<1000000000000000000000000000000)
  | .lst xs=>decide (xs.length≤40)&&xs.all (isV d)
  | .dct kvs=>decide (kvs.length≤8)&&kvs.all (fun kv=>keyOk kv.1)&&kvs.all (fun kv=>isV d kv.2)
  | .str l=>decide (l.length≤400)&&l.all q_e84fa8.contains
  | _=>false
def keyG:PK→Bool
 | .inl _=>true
 | .inr l=>decide (l.length≤16777216)&&l.all (fun c=>decide (c<1114112))
mutual
def dat:PV→Bool
 | .non=>true
 | .bl _=>true
 | .int _=>true
 | .str l=>decide (l.length≤16777216)
 | .tup xs=>pures xs
 | .lst xs=>dats xs
 | .dct kvs=>datk kvs&&decide (kvs.map (·.1)).Nodup
 | _=>false
def dats:List PV→Bool
 | []=>true
 | x::r=>dat x&&dats r
def datk:List (PK×PV)→Bool
 | []=>true
 | (k,x)::r=>keyG k&&dat x&&datk r
end
theorem dats_all:∀ xs:List PV,dats xs=xs.all dat
 | []=>by simp [dats]
 | x::r=>by simp [dats,dats_all r]
theorem datk_all:∀ xs:List (PK×PV),datk xs=xs.all fun kv=>keyG kv.1&&dat kv.2
 | []=>by simp [datk]
 | (k,x)::r=>by simp [datk,datk_all r]
mutual
theorem dat_pure:∀ p:PV,dat p=true→p.pure=true
 | .non,_=>by simp [PV.pure]
 | .bl _,_=>by simp [PV.pure]
 | .int _,_=>by simp [PV.pure]
 | .str _,_=>by simp [PV.pure]
 | .tup xs,h=>by rw [dat] at h;rw [PV.pure];exact h
 | .lst xs,h=>by rw [dat] at h;rw [PV.pure];exact dats_pure xs h
 | .dct kvs,h=>by
  rw [dat,Bool.and_eq_true] at h
  rw [PV.pure];exact datk_pure kvs h.1
 | .ty _,h=>by simp [dat] at h
 | .cls _,h=>by simp [dat] at h
 | .giv _,h=>by simp [dat] at h
 | .ins _ _,h=>by simp [dat] at h
 | .ref _,h=>by simp [dat] at h
 | .exc _,h=>by simp [dat] at h
theorem dats_pure:∀ xs:List PV,dats xs=true→pures xs=true
 | [],_=>by simp [pures]
 | x::r,h=>by
  rw [dats,Bool.and_eq_true] at h
  rw [pures,dat_pure x h.1,dats_pure r h.2];rfl
theorem datk_pure:∀ xs:List (PK×PV),datk xs=true→pureks xs=true
 | [],_=>by simp [pureks]
 | (k,x)::r,h=>by
  rw [datk,Bool.and_eq_true,Bool.and_eq_true] at h
  rw [pureks,dat_pure x h.1.2,datk_pure r h.2];rfl
end
theorem dat_lst{xs:List PV}(h:dat (.lst xs)=true):∀ x∈xs,dat x=true:=by
 rw [dat,dats_all,List.all_eq_true] at h
 exact h
theorem dat_dct{kvs:List (PK×PV)}(h:dat (.dct kvs)=true):(∀ p∈kvs,keyG p.1=true∧dat p.2=true)∧(kvs.map (·.1)).Nodup:=by
 rw [dat,datk_all,Bool.and_eq_true,List.all_eq_true] at h
 refine ⟨fun p hp=>?_,of_decide_eq_true h.2⟩
 have:=h.1 p hp
 rw [Bool.and_eq_true] at this
 exact this
theorem mk_dct{kvs:List (PK×PV)}(h:∀ p∈kvs,keyG p.1=true∧dat p.2=true)(nd:(kvs.map (·.1)).Nodup):dat (.dct kvs)=true:=by
 rw [dat,datk_all,Bool.and_eq_true,List.all_eq_true]
 exact ⟨fun p hp=>by rw [(h p hp).1,(h p hp).2];rfl,decide_eq_true nd⟩
theorem mk_lst{xs:List PV}(h:∀ x∈xs,dat x=true):dat (.lst xs)=true:=by
 rw [dat,dats_all,List.all_eq_true]
 exact h
theorem frz_d{p:PV}(h:dat p=true):∀ hh,frzV hh p=some (p,hh):=fun hh=>frz_pure hh (dat_pure p h)
theorem dr_d{p:PV}(h:dat p=true):∀ hh,derefP hh p=p:=fun hh=>dr_pure hh (dat_pure p h)
theorem fz_d{p:PV}(h:dat p=true):∀ hh,fzR p hh= .ok p hh:=fun hh=>fz_pure hh (dat_pure p h)
theorem short(k:Nat)(i:Int):F (k+1) .is_short_number [.int i]= .ok (.bl (decide ((if i<0 then -i else i)<1000000000000000000000000000000))):=by
 show runF (b_is_short_number (F k)) 1 1 [.int i]=_
 have pw:∀ h,pPow (.int 10) (.int 30) h= .ok (.int 1000000000000000000000000000000) h:=fun h=>by kernel_rfl
 simp only [EV,runF,b_is_short_number,pw,finO]
theorem no_text(k:Nat){p:PV}(n:Int)(hp:p= .non∨∃ xs,p= .tup xs∧pures xs=true):F (k+1) .is_text [p,.int n]= .ok (.bl false):=by
 show runF (b_is_text (F k)) 2 2 [p,.int n]=_
 rcases hp with rfl | ⟨xs,rfl,h⟩
 ·simp only [EV,runF,b_is_text,finO]
 ·simp only [EV,runF,b_is_text,finO]
theorem no_name(k:Nat){p:PV}(hp:∀ h,pIsinst [p,.ty "str"] h= .ok (.bl false) h)(dp:∀ h,derefP h p=p):F (k+1) .is_name [p]= .ok (.bl false):=by
 show runF (b_is_name (F k)) 1 1 [p]=_
 simp only [EV,runF,b_is_name,dp,hp,finO]
theorem key_name(k:Nat){q:PK}(h:keyG q=true):F (k+2) .is_name [keyPV q]= .ok (.bl (keyOk q)):=by
 cases q with
 | inl i=>exact no_name (k+1) (fun _=>rfl) fun _=>rfl
 | inr l=>
  simp only [keyG,Bool.and_eq_true,decide_eq_true_eq,List.all_eq_true] at h
  exact is_name k l h.1 fun c hc=>by simpa using h.2 c hc
theorem frz_key(q:PK):∀ h,frzV h (keyPV q)=some (keyPV q,h):=fun h=>by cases q<;>simp [keyPV,frzV,PV.pure]
theorem dr_key(q:PK):∀ h,derefP h (keyPV q)=keyPV q:=fun h=>by cases q<;>rfl
theorem names_loop(k:Nat)(t a:PV)(h:List L3.PO):∀ (l:List PK) (o:Option PV),(∀ q∈l,keyG q=true)→∃ o',loopS (gNm 2) (w_is_record_within_1 (F (k+2))) (l.map keyPV) [some t,some a,o] h=if l.all keyOk=true then .nx [some t,some a,o'] h else .rt (.bl false) h
 | [],o,_=>⟨o,by simp⟩
 | q::r,o,hq=>by
  obtain ⟨o',e⟩:=names_loop k t a h r (some (keyPV q)) fun x hx=>hq x (List.mem_cons_of_mem _ hx)
  refine ⟨o',?_⟩
  have n:=key_name k (hq q (List.mem_cons_self ..))
  have f:=frz_key q
  have d:=dr_key q
  rw [List.map_cons,ev_loop,List.all_cons]
  cases hc:keyOk q with
  | true=>
   simp only [EV,w_is_record_within_1,callO_def,f,d,n,hc]
   simpa only [w_is_record_within_1,Bool.true_and] using e
  | false=>simp only [EV,w_is_record_within_1,callO_def,f,d,n,hc]
theorem vals_loop(C:Fn→List PV→Out)(t:PV)(n:Int)(g:PV→Bool)(h:List L3.PO):∀ (l:List PV) (o:Option PV),(∀ x∈l,dat x=true∧C .is_value_within [x,.int n]= .ok (.bl (g x)))→∃ o',loopS (gNm 2) (w_are_values_within_1 C) l [some t,some (.int n),o] h=if l.all g=true then .nx [some t,some (.int n),o'] h else .rt (.bl false) h
 | [],o,_=>⟨o,by simp⟩
 | q::r,o,hq=>by
  obtain ⟨o',e⟩:=vals_loop C t n g h r (some q) fun x hx=>hq x (List.mem_cons_of_mem _ hx)
  refine ⟨o',?_⟩
  obtain ⟨dq,n⟩:=hq q (List.mem_cons_self ..)
  have f:=frz_d dq
  have d:=dr_d dq
  rw [ev_loop,List.all_cons]
  cases hc:g q with
  | true=>
   simp only [EV,w_are_values_within_1,callO_def,f,d,n,hc]
   simpa only [w_are_values_within_1,Bool.true_and] using e
  | false=>simp only [EV,w_are_values_within_1,callO_def,f,d,n,hc]
theorem are(k:Nat)(xs:List PV)(n:Int)(g:PV→Bool)(hx:∀ x∈xs,dat x=true∧F k .is_value_within [x,.int n]= .ok (.bl (g x))):F (k+1) .are_values_within [.lst xs,.int n]= .ok (.bl (xs.all g)):=by
 show runF (b_are_values_within (F k)) 2 3 [.lst xs,.int n]=_
 obtain ⟨o',e⟩:=vals_loop (F k) (.lst xs) n g [] xs none hx
 cases q:xs.all g with
 | true=>simp only [EV,runF,b_are_values_within,e,q,finO]
 | false=>simp only [EV,runF,b_are_values_within,e,q,finO]
theorem within:∀ (d N:Nat) (p:PV),3 * d+3≤N→dat p=true→F N .is_value_within [p,.int d]= .ok (.bl (isV d p))
 | 0,N,p,hN,hp=>by
  obtain ⟨k,rfl⟩:∃ k,N=k+1:=⟨N - 1,by omega⟩
  show runF (b_is_value_within (F k)) 2 2 [p,.int 0]=_
  simp only [EV,runF,b_is_value_within,isV,finO]
 | d+1,N,p,hN,hp=>by
  obtain ⟨k,rfl⟩:∃ k,N=k+6+3 * d:=⟨N - 6 - 3 * d,by omega⟩
  have e0:k+6+3 * d=(k+3+3 * d)+3:=by omega
  rw [e0]
  generalize hM:k+3+3 * d=M at *
  have ih:∀ (j:Nat) (x:PV),dat x=true→F (M+j) .is_value_within [x,.int d]= .ok (.bl (isV d x)):=fun j x hx=>within d (M+j) x (by omega) hx
  show runF (b_is_value_within (F (M+2))) 2 2 [p,.int ((d+1:Nat):Int)]=_
  have c1:decide (((d+1:Nat):Int)<1)=false:=decide_eq_false (by omega)
  have c2:((d+1:Nat):Int) - 1=(d:Int):=by omega
  cases p with
  | bl b=>simp only [EV,runF,b_is_value_within,isV,c1,finO]
  | int i=>
   have s:=short (M+1) i
   simp only [EV,runF,b_is_value_within,isV,c1,callO_def,s,finO]
  | non=>
   have s:=no_text (M+1) 400 (p:=.non) (.inl rfl)
   simp only [EV,runF,b_is_value_within,isV,c1,callO_def,s,finO]
  | tup xs=>
   have hx:pures xs=true:=by simpa [dat] using hp
   have s:=no_text (M+1) 400 (p:=.tup xs) (.inr ⟨xs,rfl,hx⟩)
   have f:=fun h=>frz_tup h hx
   simp only [EV,runF,b_is_value_within,isV,c1,callO_def,f,s,finO]
  | str l=>
   have hl:l.length≤16777216:=by simpa [dat] using hp
   have s:=is_text_s M l 400 hl
   have e1:decide ((l.length:Int)≤400)=decide (l.length≤400):=decide_eq_decide.mpr (by omega)
   rw [e1] at s
   simp only [EV,runF,b_is_value_within,isV,c1,callO_def,s,finO]
  | lst xs=>
   have hx:=dat_lst hp
   have f:=frz_d hp
   have s:=are (M+1) xs d (isV d) fun x h=>⟨hx x h,ih 1 x (hx x h)⟩
   by_cases hz:xs.length≤40
   ·have e1:decide ((xs.length:Int)≤40)=true:=decide_eq_true (by omega)
    simp only [EV,runF,b_is_value_within,isV,c1,c2,callO_def,f,s,e1,hz,finO]
   ·have e1:decide ((xs.length:Int)≤40)=false:=decide_eq_false (by omega)
    simp only [EV,runF,b_is_value_within,isV,c1,c2,callO_def,e1,hz,finO]
  | dct kvs=>
   obtain ⟨hx,nd⟩:=dat_dct hp
   have f:=frz_d hp
   have rec1:F (M+2) .is_record_within [.dct kvs,.int ((d+1:Nat):Int)]= .ok (.bl (isV (d+1) (.dct kvs))):=by
    show runF (b_is_record_within (F (M+1))) 2 3 [.dct kvs,.int ((d+1:Nat):Int)]=_
    by_cases hz:kvs.length≤8
    ·have e1:decide ((kvs.length:Int)>8)=false:=decide_eq_false (by omega)
     obtain ⟨o',lp⟩:=names_loop (M - 1) (.dct kvs) (.int ((d+1:Nat):Int)) [] (kvs.map (·.1)) none fun q hq=>by
      obtain ⟨p,hp,rfl⟩:=List.mem_map.mp hq
      exact (hx p hp).1
     rw [show M - 1+2=M+1 by omega,List.map_map,List.all_map] at lp
     have lp2:loopS (gNm 2) (w_is_record_within_1 (F (M+1))) (kvs.map fun p=>keyPV p.1) [some (.dct kvs),some (.int ((d+1:Nat):Int)),none] []=_:=lp
     have dv:∀ x∈kvs.map (·.2),dat x=true:=fun x h=>by
      obtain ⟨p,hp,rfl⟩:=List.mem_map.mp h
      exact (hx p hp).2
     have s:=are M (kvs.map (·.2)) d (isV d) fun x h=>⟨dv x h,ih 0 x (dv x h)⟩
     rw [List.all_map] at s
     have f2:=frz_d (mk_lst dv)
     cases q:kvs.all (keyOk∘fun x=>x.1) with
     | true=>
      have q2:kvs.all (fun kv=>keyOk kv.1)=true:=q
      rw [q] at lp2
      simp only [EV,runF,b_is_record_within,isV,e1,hz,lp2,c2,callO_def,f2,s,q2,finO]
      rfl
     | false=>
      have q2:kvs.all (fun kv=>keyOk kv.1)=false:=q
      rw [q] at lp2
      simp only [EV,runF,b_is_record_within,isV,e1,hz,lp2,q2,finO]
    ·have e1:decide ((kvs.length:Int)>8)=true:=decide_eq_true (by omega)
     simp only [EV,runF,b_is_record_within,isV,e1,hz,finO]
   simp only [EV,runF,b_is_value_within,c1,callO_def,f,rec1,finO]
  | ty _=>simp [dat] at hp
  | cls _=>simp [dat] at hp
  | giv _=>simp [dat] at hp
  | ins _ _=>simp [dat] at hp
  | ref _=>simp [dat] at hp
  | exc _=>simp [dat] at hp
theorem is_value(N:Nat)(p:PV)(hN:22≤N)(hp:dat p=true):F N .is_value [p]= .ok (.bl (isV 6 p)):=by
 obtain ⟨k,rfl⟩:∃ k,N=k+1:=⟨N - 1,by omega⟩
 show runF (b_is_value (F k)) 1 1 [p]=_
 have w:=within 6 k p (by omega) hp
 have f:=frz_d hp
 have d:=dr_d hp
 have w':F k .is_value_within [p,.int 6]=_:=w
 simp only [EV,runF,b_is_value,callO_def,f,d,w',finO]
theorem isV_lst{d:Nat}{xs:List PV}(h:isV (d+1) (.lst xs)=true):xs.length≤40∧∀ x∈xs,isV d x=true:=by
 simp only [isV,Bool.and_eq_true,decide_eq_true_eq,List.all_eq_true] at h
 exact h
theorem isV_dct{d:Nat}{kvs:List (PK×PV)}(h:isV (d+1) (.dct kvs)=true):kvs.length≤8∧∀ p∈kvs,keyOk p.1=true∧isV d p.2=true:=by
 simp only [isV,Bool.and_eq_true,decide_eq_true_eq,List.all_eq_true] at h
 exact ⟨h.1.1,fun p hp=>⟨h.1.2 p hp,h.2 p hp⟩⟩
theorem keyOk_str{q:PK}(h:keyOk q=true):∃ l,q= .inr l∧nameOk l=true:=by
 cases q with
 | inl _=>simp [keyOk] at h
 | inr l=>exact ⟨l,rfl,h⟩
theorem copy_loop(C:Fn→List PV→Out)(kvs:List (PK×PV))(nd:(kvs.map (·.1)).Nodup)(hl:kvs.length≤8)(hk:∀ p∈kvs,keyOk p.1=true∧dat p.2=true∧C .copied [p.2]= .ok p.2):∀ (r pre:List (PK×PV)) (o:Option PV),kvs=pre++r→∃ o',loopS (gNm 2) (w_copied_2 C) (r.map fun p=>keyPV p.1) [some (.dct kvs),some (.ref 0),o] [.dct pre]= .nx [some (.dct kvs),some (.ref 0),o'] [.dct kvs]
 | [],pre,o,e=>⟨o,by rw [List.append_nil] at e;subst e;rfl⟩
 | p::r,pre,o,e=>by
  obtain ⟨o',ih⟩:=copy_loop C kvs nd hl hk r (pre++ [p]) (some (keyPV p.1)) (by rw [e];simp)
  refine ⟨o',?_⟩
  obtain ⟨q,v⟩:=p
  have hp:(q,v)∈kvs:=by rw [e];simp
  obtain ⟨h1,h2,h3⟩:=hk _ hp
  obtain ⟨l,rfl,_⟩:=keyOk_str h1
  have ev:=valP_mem nd hp
  have f:=frz_d h2
  have d:=dr_d h2
  have ln:pre.length<16777216:=by have:=congrArg List.length e;simp at this;omega
  have nw:(Sum.inr l:PK)∉pre.map (·.1):=by
   rw [e,List.map_append,List.nodup_append] at nd
   intro z
   exact nd.2.2 _ z (.inr l) (by simp) rfl
  have pn:=putP_new (v:=v) nw
  rw [List.map_cons,ev_loop]
  dsimp only at h3
  simp only [EV,w_copied_2,keyPV,ev,d,f,callO_def,h3,ln,pn]
  exact ih
theorem copied_eq:∀ (d N:Nat) (p:PV),d≤N→isV d p=true→dat p=true→F N .copied [p]= .ok p
 | 0,_,_,_,h,_=>by simp [isV] at h
 | d+1,N,p,hN,hv,hd=>by
  obtain ⟨k,rfl⟩:∃ k,N=k+1:=⟨N - 1,by omega⟩
  have ih:=fun x=>copied_eq d k x (by omega)
  show runF (b_copied (F k)) 1 3 [p]=_
  have f:=frz_d hd
  cases p with
  | bl b=>simp only [EV,runF,b_copied,finO]
  | int b=>simp only [EV,runF,b_copied,finO]
  | str b=>simp only [EV,runF,b_copied,finO]
  | lst xs=>
   obtain ⟨h1,h2⟩:=isV_lst hv
   have h3:=dat_lst hd
   have ln:xs.length<16777216:=by omega
   have cm:compL tYesE (e_copied_1 (F k)) (capP [] [some (.lst xs),none,none]) xs []= .ok xs []:=by
    rw [compL_map (f:=fun p=>p)]
    ·simp
    ·intro x hx
     have e:=ih x (h2 x hx) (h3 x hx)
     have f1:=frz_d (h3 x hx)
     have d1:=dr_d (h3 x hx)
     simp only [EV,e_copied_1,d1,f1,callO_def,e]
   simp only [EV,runF,b_copied,ln,cm,f,finO]
  | dct kvs=>
   obtain ⟨h1,h2⟩:=isV_dct hv
   obtain ⟨h3,nd⟩:=dat_dct hd
   obtain ⟨o',lp⟩:=copy_loop (F k) kvs nd h1 (fun p hp=>⟨(h2 p hp).1,(h3 p hp).2,ih p.2 (h2 p hp).2 (h3 p hp).2⟩) kvs [] none rfl
   have fz:=fz_d0 (l:=kvs) [] (by have:=dat_pure _ hd;simpa [PV.pure] using this)
   simp only [EV,runF,b_copied,lp,fz,f,finO]
  | _=>simp [isV] at hv
def walk:PV→List (List Nat)→Option PV
 | v,[]=>some v
 | v,f::fs=>match v with
  | .dct kvs=>match valP kvs (.inr f) with
   | some x=>walk x fs
   | none=>none
  | _=>none
theorem dat_at{kvs:List (PK×PV)}{q:PK}{v:PV}(h:dat (.dct kvs)=true)(e:valP kvs q=some v):dat v=true:=((dat_dct h).1 _ (valP_in e)).2
theorem walk_ok:∀ {fs:List (List Nat)} {d:Nat} {v x:PV},isV d v=true→dat v=true→walk v fs=some x→(∃ d',d'≤d∧isV d' x=true)∧dat x=true
 | [],d,v,x,h1,h2,e=>by simp only [walk,Option.some.injEq] at e;subst e;exact ⟨⟨d,Nat.le_refl _,h1⟩,h2⟩
 | f::fs,d,v,x,h1,h2,e=>by
  cases v with
  | dct kvs=>
   rw [walk] at e
   cases q:valP kvs (.inr f) with
   | none=>rw [q] at e;cases e
   | some y=>
    rw [q] at e
    cases d with
    | zero=>simp [isV] at h1
    | succ d=>
     obtain ⟨⟨d',a,b⟩,c⟩:=walk_ok ((isV_dct h1).2 _ (valP_in q)).2 (dat_at h2 q) e
     exact ⟨⟨d',by omega,b⟩,c⟩
  | _=>simp [walk] at e
theorem found_loop(C:Fn→List PV→Out)(v0 t:PV):∀ (fs:List (List Nat)) (v:PV) (o:Option PV),dat v=true→∃ o',loopS (gNm 3) (w_found_1 C) (fs.map PV.str) [some v0,some t,some v,o] []=match walk v fs with | some x=>.nx [some v0,some t,some x,o'] [] | none=>.rt (.tup []) []
 | [],v,o,_=>⟨o,rfl⟩
 | f::fs,v,o,hv=>by
  have d:=dr_d hv
  cases v with
  | dct kvs=>
   cases q:valP kvs (.inr f) with
   | none=>
    refine ⟨none,?_⟩
    rw [List.map_cons,ev_loop]
    simp only [EV,w_found_1,walk,q]
   | some y=>
    have hy:=dat_at hv q
    have dy:=dr_d hy
    obtain ⟨o',ih⟩:=found_loop C v0 t fs y (some (.str f)) hy
    refine ⟨o',?_⟩
    rw [List.map_cons,ev_loop]
    simp only [EV,w_found_1,walk,q,dy]
    exact ih
  | non=>exact ⟨none,by rw [List.map_cons,ev_loop];simp only [EV,w_found_1,walk]⟩
  | bl b=>exact ⟨none,by rw [List.map_cons,ev_loop];simp only [EV,w_found_1,walk]⟩
  | int b=>exact ⟨none,by rw [List.map_cons,ev_loop];simp only [EV,w_found_1,walk]⟩
  | str b=>exact ⟨none,by rw [List.map_cons,ev_loop];simp only [EV,w_found_1,walk]⟩
  | tup b=>exact ⟨none,by rw [List.map_cons,ev_loop];simp only [EV,w_found_1,walk]⟩
  | lst b=>exact ⟨none,by rw [List.map_cons,ev_loop];simp only [EV,w_found_1,walk]⟩
  | _=>simp [dat] at hv
def wl(o:Option PV):List PV:=match o with
 | some x=> [x]
 | none=> []
theorem found_eq(k:Nat)(v:PV)(fs:List (List Nat))(hv:dat v=true):F (k+1) .found [v,.tup (fs.map PV.str)]= .ok (.tup (wl (walk v fs))):=by
 show runF (b_found (F k)) 2 4 [v,.tup (fs.map PV.str)]=_
 have d:=dr_d hv
 obtain ⟨o',lp⟩:=found_loop (F k) v (.tup (fs.map PV.str)) fs v none hv
 cases q:walk v fs with
 | none=>
  rw [q] at lp
  have f:∀ h,frzV h (.tup [])=some (.tup [],h):=fun h=>frz_tup h rfl
  simp only [EV,runF,b_found,d,lp,f,wl,finO]
 | some x=>
  rw [q] at lp
  have hx:dat x=true:=by
   have:∀ {fs:List (List Nat)} {v x:PV},dat v=true→walk v fs=some x→dat x=true:=by
    intro fs
    induction fs with
    | nil=>intro v x h e;simp only [walk,Option.some.injEq] at e;subst e;exact h
    | cons f fs ih=>
     intro v x h e
     cases v with
     | dct kvs=>
      rw [walk] at e
      cases q:valP kvs (.inr f) with
      | none=>rw [q] at e;cases e
      | some y=>rw [q] at e;exact ih (dat_at h q) e
     | _=>simp [walk] at e
   exact this hv q
  have dx:=dr_d hx
  have f:∀ h,frzV h (.tup [x])=some (.tup [x],h):=fun h=>frz_tup h (by simp [pures,dat_pure x hx])
  simp only [EV,runF,b_found,d,dx,lp,f,wl,finO]
theorem looked_up_eq(N:Nat)(v:PV)(fs:List (List Nat))(hN:8≤N)(h6:isV 6 v=true)(hv:dat v=true):F N .looked_up [v,.tup (fs.map PV.str)]= .ok (.tup (wl (walk v fs))):=by
 obtain ⟨k,rfl⟩:∃ k,N=k+8:=⟨N - 8,by omega⟩
 show runF (b_looked_up (F (k+7))) 2 2 [v,.tup (fs.map PV.str)]=_
 have e:=found_eq (k+6) v fs hv
 have d:=dr_d hv
 have f:=frz_d hv
 have ft:∀ h,frzV h (.tup (fs.map PV.str))=some (.tup (fs.map PV.str),h):=fun h=>frz_tup h (by
  rw [pures_map,List.all_map,List.all_eq_true];intro x _;rfl)
 cases q:walk v fs with
 | none=>
  rw [q] at e
  have cm:∀ cp h,compL tYesE (e_looked_up_1 (F (k+7))) cp [] h= .ok [] h:=fun _ _=>rfl
  have fe:∀ h,frzV h (.tup [])=some (.tup [],h):=fun h=>frz_tup h rfl
  have z0:(0:Nat)<16777216:=by decide
  have z1:(1:Nat)<16777216:=by decide
  simp only [EV,runF,b_looked_up,d,f,ft,callO_def,e,cm,wl,fe,finO,z0,z1]
 | some x=>
  rw [q] at e
  obtain ⟨⟨d',hd',hx⟩,hdx⟩:=walk_ok h6 hv q
  have dx:=dr_d hdx
  have fx:=frz_d hdx
  have c:=copied_eq d' (k+7) x (by omega) hx hdx
  have cm:∀ cp h,compL tYesE (e_looked_up_1 (F (k+7))) cp [x] h= .ok [x] h:=fun cp h=>by
   rw [compL_map (f:=fun p=>p)]
   ·simp
   ·intro y hy
    rw [List.mem_singleton.mp hy]
    simp only [EV,e_looked_up_1,dx,fx,callO_def,c]
  have fe:∀ h,frzV h (.tup [x])=some (.tup [x],h):=fun h=>frz_tup h (by simp [pures,dat_pure x hdx])
  have z0:(0:Nat)<16777216:=by decide
  have z1:(1:Nat)<16777216:=by decide
  simp only [EV,runF,b_looked_up,d,f,ft,callO_def,e,cm,wl,fe,finO,z0,z1]
theorem eqS_ne(x:PV)(h:List L3.PO):pEqS (.lst [x]) (.lst []) h= .ok (.bl false) h:=rfl
theorem looked_loop(C:Fn→List PV→Out)(v0 t:PV):∀ (fs:List (List Nat)) (v:PV) (o:Option PV),dat v=true→∃ o',loopS (gNm 3) (w_l_looked_1 C) (fs.map PV.str) [some v0,some t,some (.lst [v]),o] []=match walk v fs with | some x=>.nx [some v0,some t,some (.lst [x]),o'] [] | none=>.rt (.lst []) []
 | [],v,o,_=>⟨o,rfl⟩
 | f::fs,v,o,hv=>by
  have d:=dr_d hv
  have at0:∀ x:PV,atI [x] 0=some x:=fun x=>rfl
  cases v with
  | dct kvs=>
   cases q:valP kvs (.inr f) with
   | none=>
    refine ⟨none,?_⟩
    rw [List.map_cons,ev_loop]
    simp only [EV,w_l_looked_1,walk,q,eqS_ne,at0]
   | some y=>
    have hy:=dat_at hv q
    have dy:=dr_d hy
    obtain ⟨o',ih⟩:=looked_loop C v0 t fs y (some (.str f)) hy
    refine ⟨o',?_⟩
    rw [List.map_cons,ev_loop]
    simp only [EV,w_l_looked_1,walk,q,dy,eqS_ne,at0]
    exact ih
  | non=>exact ⟨none,by rw [List.map_cons,ev_loop];simp only [EV,w_l_looked_1,walk,eqS_ne,at0]⟩
  | bl b=>exact ⟨none,by rw [List.map_cons,ev_loop];simp only [EV,w_l_looked_1,walk,eqS_ne,at0]⟩
  | int b=>exact ⟨none,by rw [List.map_cons,ev_loop];simp only [EV,w_l_looked_1,walk,eqS_ne,at0]⟩
  | str b=>exact ⟨none,by rw [List.map_cons,ev_loop];simp only [EV,w_l_looked_1,walk,eqS_ne,at0]⟩
  | tup b=>exact ⟨none,by rw [List.map_cons,ev_loop];simp only [EV,w_l_looked_1,walk,eqS_ne,at0]⟩
  | lst b=>exact ⟨none,by rw [List.map_cons,ev_loop];simp only [EV,w_l_looked_1,walk,eqS_ne,at0]⟩
  | _=>simp [dat] at hv
theorem looked_eq(k:Nat)(v:PV)(fs:List (List Nat))(h6:isV 6 v=true)(hv:dat v=true):F (k+1) .l_looked [v,.tup (fs.map PV.str)]= .ok (.lst (wl (walk v fs))):=by
 show runF (b_l_looked (F k)) 2 4 [v,.tup (fs.map PV.str)]=_
 have d:=dr_d hv
 obtain ⟨o',lp⟩:=looked_loop (F k) v (.tup (fs.map PV.str)) fs v none hv
 cases q:walk v fs with
 | none=>
  rw [q] at lp
  have f:∀ h,frzV h (.lst [])=some (.lst [],h):=fun h=>frz_lst h rfl
  simp only [EV,runF,b_l_looked,d,lp,f,wl,finO]
 | some x=>
  rw [q] at lp
  have hx:=(walk_ok h6 hv q).2
  have f:∀ h,frzV h (.lst [x])=some (.lst [x],h):=fun h=>frz_lst h (by simp [pures,dat_pure x hx])
  simp only [EV,runF,b_l_looked,d,lp,f,wl,finO]
mutual
def neD:PV→Bool
 | .dct kvs=>!kvs.isEmpty&&neDk kvs
 | _=>true
def neDk:List (PK×PV)→Bool
 | []=>true
 | (_,x)::r=>neD x&&neDk r
end
theorem neDk_all:∀ xs:List (PK×PV),neDk xs=xs.all fun kv=>neD kv.2
 | []=>by simp [neDk]
 | (k,x)::r=>by simp [neDk,neDk_all r]
theorem neD_dct{kvs:List (PK×PV)}(h:neD (.dct kvs)=true):kvs≠ []∧∀ p∈kvs,neD p.2=true:=by
 rw [neD,neDk_all,Bool.and_eq_true,List.all_eq_true] at h
 refine ⟨fun e=>?_,h.2⟩
 rw [e] at h
 simp at h
theorem strKs_ok:∀ {kvs:List (PK×PV)},(∀ p∈kvs,keyOk p.1=true)→∃ ks,strKs kvs=some ks∧kvs.map (·.1)=ks.map Sum.inr∧∀ l∈ks,nameOk l=true
 | [],_=>⟨[],rfl,rfl,by simp⟩
 | (q,v)::r,h=>by
  obtain ⟨l,rfl,hl⟩:=keyOk_str (h _ (List.mem_cons_self ..))
  obtain ⟨ks,e1,e2,e3⟩:=strKs_ok fun p hp=>h p (List.mem_cons_of_mem _ hp)
  exact ⟨l::ks,by rw [strKs,e1];rfl,by simp [e2],by simpa using ⟨hl,e3⟩⟩
theorem pick{kvs:List (PK×PV)}{ks:List (List Nat)}(c:Int)(hne:kvs≠ [])(nd:(kvs.map (·.1)).Nodup)(e2:kvs.map (·.1)=ks.map Sum.inr):
  ∃ nm v,atI ((sortL ks).map PV.str) (c % (kvs.length:Int))=some (.str nm)∧valP kvs (.inr nm)=some v∧(Sum.inr nm,v)∈kvs:=by
 have l1:kvs.length=ks.length:=by have:=congrArg List.length e2;simpa using this
 have l0:0<kvs.length:=List.length_pos_iff.mpr hne
 have h1:0≤c % (kvs.length:Int):=Int.emod_nonneg _ (by omega)
 have h2:c % (kvs.length:Int)<(kvs.length:Int):=Int.emod_lt_of_pos _ (by omega)
 have l2:(sortL ks).length=ks.length:=(sortL_perm ks).length_eq
 have lt:(c % (kvs.length:Int)).toNat<(sortL ks).length:=by omega
 have mem:(sortL ks)[(c % (kvs.length:Int)).toNat]∈ks:=(sortL_perm ks).mem_iff.mp (List.getElem_mem lt)
 have mk:(Sum.inr (sortL ks)[(c % (kvs.length:Int)).toNat]:PK)∈kvs.map (·.1):=by rw [e2];exact List.mem_map.mpr ⟨_,mem,rfl⟩
 obtain ⟨⟨q,v⟩,hp,eq⟩:=List.mem_map.mp mk
 refine ⟨(sortL ks)[(c % (kvs.length:Int)).toNat],v,atI_at h1 ?_,valP_mem nd ?_,?_⟩
 ·rw [List.getElem?_map,List.getElem?_eq_getElem lt];rfl
 ·rw [← eq];exact hp
 ·rw [← eq];exact hp
theorem len_r0(xs:List PV)(r:List L3.PO):pLen [.ref 0] (.lst xs::r)= .ok (.int xs.length) (.lst xs::r):=rfl
theorem tuple_r0(xs:List PV)(r:List L3.PO):pTuple [.ref 0] (.lst xs::r)= .ok (.tup xs) (.lst xs::r):=rfl
theorem fields_loop(C:Fn→List PV→Out):∀ (n d:Nat) (v:PV) (c:Int) (fs:List (List Nat)) (o:Option PV),isV d v=true→dat v=true→neD v=true→fs.length+n=4→
  ∃ (v':PV) (c':Int) (fs':List (List Nat)) (o':Option PV),sWhile (tAndE (tTruE (cN pIsinst (aCons (cVar 0) (aCons (cK (.ty "dict")) aNil)))) (tAndE (tCmpE (c2 pGt (c2 pMod (cVar 1) (cK (.int 5))) (cK (.int 0)))) (tCmpE (c2 pLt (cN pLen (aCons (cVar 2) aNil)) (cK (.int 4)))))) (w_l_fields_1 C) [some v,some (.int c),some (.ref 0),o] [.lst (fs.map PV.str)]= .nx [some v',some (.int c'),some (.ref 0),o'] [.lst (fs'.map PV.str)]∧fs'.length≤4:=by
 intro n
 induction n with
 | zero=>
  intro d v c fs o h1 h2 h3 hl
  have dv:=dr_d h2
  refine ⟨v,c,fs,o,sW_no ?_,by omega⟩
  have e4:decide (((fs.map PV.str).length:Int)<4)=false:=decide_eq_false (by rw [List.length_map];omega)
  cases v with
  | dct kvs=>
   cases q:decide (c % 5>0) with
   | true=>simp only [EV,q,len_r0,e4]
   | false=>simp only [EV,q]
  | bl b=>simp only [EV]
  | int b=>simp only [EV]
  | str b=>simp only [EV]
  | lst b=>simp only [EV]
  | non=>simp only [EV]
  | tup b=>simp only [EV]
  | _=>simp [dat] at h2
 | succ n ih=>
  intro d v c fs o h1 h2 h3 hl
  have dv:=dr_d h2
  have e4:decide (((fs.map PV.str).length:Int)<4)=true:=decide_eq_true (by rw [List.length_map];omega)
  have ln:(fs.map PV.str).length<16777216:=by rw [List.length_map];omega
  have no:∀ {v:PV},(∀ h,pIsinst [v,.ty "dict"] h= .ok (.bl false) h)→(∀ h,derefP h v=v)→∃ (v':PV) (c':Int) (fs':List (List Nat)) (o':Option PV),sWhile (tAndE (tTruE (cN pIsinst (aCons (cVar 0) (aCons (cK (.ty "dict")) aNil)))) (tAndE (tCmpE (c2 pGt (c2 pMod (cVar 1) (cK (.int 5))) (cK (.int 0)))) (tCmpE (c2 pLt (cN pLen (aCons (cVar 2) aNil)) (cK (.int 4)))))) (w_l_fields_1 C) [some v,some (.int c),some (.ref 0),o] [.lst (fs.map PV.str)]= .nx [some v',some (.int c'),some (.ref 0),o'] [.lst (fs'.map PV.str)]∧fs'.length≤4:=fun hi hd=>⟨_,c,fs,o,sW_no (by simp only [EV,hi,hd]),by omega⟩
  cases v with
  | dct kvs=>
   cases q:decide (c % 5>0) with
   | false=>exact ⟨_,c,fs,o,sW_no (by simp only [EV,q]),by omega⟩
   | true=>
    cases d with
    | zero=>simp [isV] at h1
    | succ d=>
     obtain ⟨z1,z2⟩:=isV_dct h1
     obtain ⟨y1,nd⟩:=dat_dct h2
     obtain ⟨x1,x2⟩:=neD_dct h3
     obtain ⟨ks,k1,k2,k3⟩:=strKs_ok fun p hp=>(z2 p hp).1
     obtain ⟨nm,y,p1,p2,p3⟩:=pick (c / 5) x1 nd k2
     have hy:=(y1 _ p3).2
     have dy:=dr_d hy
     have lk:ks.length<64:=by have:=congrArg List.length k2;simp at this;omega
     have so:=fun h=>sorted_d h k1 lk
     have pos:decide (0<(kvs.length:Int))=true:=decide_eq_true (by have:=List.length_pos_iff.mpr x1;omega)
     obtain ⟨v',c',fs',o',w,hf⟩:=ih d y (c / 11) (fs++ [nm]) (some (.str nm)) (z2 _ p3).2 hy (x2 _ p3) (by simp;omega)
     refine ⟨v',c',fs',o',sW_nx (h1:= [.lst (fs.map PV.str)]) (ρ2:= [some y,some (.int (c / 11)),some (.ref 0),some (.str nm)]) (h2:= [.lst ((fs++ [nm]).map PV.str)]) ?_ ?_ w (fun z=>by cases z),hf⟩
     ·simp only [EV,q,len_r0,e4]
     ·have ap:(fs++ [nm]).map PV.str=fs.map PV.str++ [.str nm]:=by simp
      simp only [EV,w_l_fields_1,so,pos,p1,p2,dy,app0,isLst0,ln,ap]
  | bl b=>exact no (fun _=>rfl) fun _=>rfl
  | int b=>exact no (fun _=>rfl) fun _=>rfl
  | str b=>exact no (fun _=>rfl) fun _=>rfl
  | lst b=>exact no (fun _=>rfl) fun _=>rfl
  | non=>exact no (fun _=>rfl) fun _=>rfl
  | tup b=>exact no (fun _=>rfl) fun _=>rfl
  | _=>simp [dat] at h2
theorem frz_strs(fs:List (List Nat)):∀ h,frzV h (.tup (fs.map PV.str))=some (.tup (fs.map PV.str),h):=fun h=>frz_tup h (by
  rw [pures_map,List.all_map,List.all_eq_true];intro x _;rfl)
theorem at3(m:Int){a b c:List Nat}:∃ x,(x=a∨x=b∨x=c)∧atI [PV.str a,.str b,.str c] (m % 3)=some (.str x):=by
 have h1:0≤m % 3:=Int.emod_nonneg _ (by decide)
 have h2:m % 3<3:=Int.emod_lt_of_pos _ (by decide)
 have:m % 3=0∨m % 3=1∨m % 3=2:=by omega
 rcases this with e | e | e
 ·exact ⟨a,.inl rfl,by rw [e];rfl⟩
 ·exact ⟨b,.inr (.inl rfl),by rw [e];rfl⟩
 ·exact ⟨c,.inr (.inr rfl),by rw [e];rfl⟩
theorem fields_eq(k:Nat)(v:PV)(c:Int)(h1:isV 6 v=true)(h2:dat v=true)(h3:neD v=true):∃ fs:List (List Nat),F (k+1) .l_fields [v,.int c]= .ok (.tup (fs.map PV.str)):=by
 obtain ⟨v',c',fs',o',w,hf⟩:=fields_loop (F k) 4 6 v c [] none h1 h2 h3 rfl
 have w':sWhile _ (w_l_fields_1 (F k)) [some v,some (.int c),some (.ref 0),none] [.lst []]=_:=w
 obtain ⟨x,_,ex⟩:=at3 (c' / 3) (a:= [97]) (b:= [98]) (c:= [122,122])
 have ln:(fs'.map PV.str).length<16777216:=by rw [List.length_map];omega
 cases q:decide (c' % 3=1) with
 | true=>
  refine ⟨fs'++ [x],?_⟩
  show runF (b_l_fields (F k)) 2 4 [v,.int c]=_
  have ap:(fs'++ [x]).map PV.str=fs'.map PV.str++ [.str x]:=by simp
  have fz:=frz_strs (fs'++ [x])
  rw [ap] at fz
  simp only [EV,runF,b_l_fields,w',pEq_ii,q,ex,app0,isLst0,ln,tuple_r0,ap,fz,finO]
 | false=>
  refine ⟨fs',?_⟩
  show runF (b_l_fields (F k)) 2 4 [v,.int c]=_
  have fz:=frz_strs fs'
  simp only [EV,runF,b_l_fields,w',pEq_ii,q,tuple_r0,fz,finO]
theorem all2_refl{f:PV→PV→Bool}:∀ {l:List PV},(∀ x∈l,f x x=true)→all2 f l l=true
 | [],_=>rfl
 | x::r,h=>by rw [all2,h x (List.mem_cons_self ..),all2_refl fun y hy=>h y (List.mem_cons_of_mem _ hy)];rfl
theorem same_refl:∀ (d n:Nat) (x:PV),d≤n→isV d x=true→sameP n x x=true
 | 0,_,_,_,h=>by simp [isV] at h
 | d+1,n,x,hn,h=>by
  obtain ⟨m,rfl⟩:∃ m,n=m+1:=⟨n - 1,by omega⟩
  cases x with
  | bl b=>simp [sameP,sameF]
  | int b=>simp [sameP,sameF]
  | str b=>simp [sameP,sameF]
  | lst xs=>rw [sameP];exact all2_refl fun y hy=>same_refl d m y (by omega) ((isV_lst h).2 y hy)
  | dct kvs=>
   rw [sameP,Bool.and_eq_true]
   refine ⟨by simp,all2_refl fun y hy=>?_⟩
   obtain ⟨p,hp,rfl⟩:=List.mem_map.mp hy
   exact same_refl d m p.2 (by omega) ((isV_dct h).2 p hp).2
  | _=>simp [isV] at h
def isB:PV→Bool
 | .bl _=>true
 | _=>false
theorem isB_eq{x:PV}(h:dat x=true):∀ hh,pIsinst [x,.ty "bool"] hh= .ok (.bl (isB x)) hh:=fun hh=>by
 cases x with
 | non=>rfl
 | bl b=>rfl
 | int b=>rfl
 | str b=>rfl
 | lst b=>rfl
 | dct b=>rfl
 | tup b=>rfl
 | _=>simp [dat] at h
theorem looks_eq(N:Nat)(v:PV)(c:Int)(hN:23≤N)(h1:isV 6 v=true)(h2:dat v=true)(h3:neD v=true):F N .l_looks [v,.int c]= .ok (.bl true):=by
 obtain ⟨k,rfl⟩:∃ k,N=k+23:=⟨N - 23,by omega⟩
 obtain ⟨fs,e1⟩:=fields_eq (k+21) v c h1 h2 h3
 show runF (b_l_looks (F (k+22))) 2 5 [v,.int c]=_
 have e2:=looked_up_eq (k+22) v fs (by omega) h1 h2
 have e3:=looked_eq (k+21) v fs h1 h2
 have e4:=is_value (k+22) v (by omega) h2
 rw [h1] at e4
 have e5:=l_is (k+21) true true
 have d:=dr_d h2
 have f:=frz_d h2
 have ft:=frz_strs fs
 have ls:∀ (l:List PV) h,pList [.tup l] h= .ok (.lst l) h:=fun _ _=>rfl
 have at0:∀ x:PV,atI [x] 0=some x:=fun x=>rfl
 have tt:(true==true)=true:=rfl
 cases q:walk v fs with
 | none=>
  rw [q] at e2 e3
  have n1:∀ h,pNeS (.lst []) (.lst []) h= .ok (.bl false) h:=fun _=>rfl
  have n2:∀ h,pEqS (.lst []) (.lst []) h= .ok (.bl true) h:=fun _=>rfl
  simp only [EV,runF,b_l_looks,callO_def,d,f,ft,e1,e2,e3,e4,e5,ls,wl,n1,n2,tt,finO]
 | some x=>
  rw [q] at e2 e3
  obtain ⟨⟨d',hd',hx⟩,hdx⟩:=walk_ok h1 h2 q
  have sm:=same_refl d' 60 x (by omega) hx
  have n1:∀ h,pNeS (.lst [x]) (.lst [x]) h= .ok (.bl false) h:=fun h=>by
   have z:ltS h (.lst [x]) (.lst [x])=some true:=by
    show (if [x].length= [x].length then (if all2 (sameP 60) [x] [x]=true then some true else none) else some false)=_
    rw [if_pos rfl,if_pos (by rw [all2,sm];rfl)]
   unfold pNeS
   rw [z];rfl
  have dx:=dr_d hdx
  have ib:=isB_eq hdx
  have eb:∀ (b:Bool) h,pEq (.bl b) (.bl b) h= .ok (.bl true) h:=fun b h=>by cases b<;>rfl
  simp only [EV,runF,b_l_looks,callO_def,d,f,ft,e1,e2,e3,e4,e5,ls,wl,n1,eqS_ne,at0,dx,ib,eb,tt,finO]
theorem cut_to{α:Type}(l:List α)(b:Nat):cut l none (some (b:Int))=l.take b:=by
 unfold cut
 rw [HT.sIx_nat,HT.sIx_none,List.drop_zero,Nat.sub_zero]
 rcases Nat.le_total b l.length with q | q
 ·rw [Nat.min_eq_left q]
 ·rw [Nat.min_eq_right q,List.take_of_length_le (Nat.le_refl _),List.take_of_length_le q]
theorem cut_from{α:Type}(l:List α)(a:Nat):cut l (some (a:Int)) none=l.drop a:=by
 unfold cut
 rw [HT.sIx_nat,HT.sIx_none]
 rcases Nat.le_total a l.length with q | q
 ·rw [Nat.min_eq_left q,List.take_of_length_le (by rw [List.length_drop];omega)]
 ·rw [Nat.min_eq_right q,List.drop_length,List.take_nil,List.drop_eq_nil_of_le q]
theorem ev_dict1(a b:Ex)(ρ:Ev)(h:List L3.PO):cDict [(a,b)] ρ h=(a ρ h).bind fun x h1=>(b ρ h1).bind fun y h2=>match keyOf x with | some k=>.ok (.dct [(k,y)]) h2 | none=>.bad:=by
 show ((a ρ h).bind fun x h1=>(b ρ h1).bind fun y h2=>match keyOf x with
  | some k=>(cPairs [] ρ h2).bind fun ps h3=>.ok ((k,y)::ps) h3
  | none=>.bad).bind (fun ps h1=>Res.ok (PV.dct (mkD ps)) h1)=_
 cases a ρ h with
 | bad=>rfl
 | exc _ _=>rfl
 | ok x h1=>
  dsimp only [Res.bind_ok]
  cases b ρ h1 with
  | bad=>rfl
  | exc _ _=>rfl
  | ok y h2=>
   dsimp only [Res.bind_ok]
   cases keyOf x<;>rfl
theorem key_s(l:List Nat):keyOf (.str l)=some (.inr l):=rfl
theorem key_i(i:Int):keyOf (.int i)=some (.inl i):=rfl
def MANY:List (PK×PV):= [(.inr [97],.int 0),(.inr [98],.int 1),(.inr [99],.int 2),(.inr [100],.int 3),(.inr [101],.int 4),(.inr [102],.int 5),(.inr [103],.int 6),(.inr [104],.int 7),(.inr [105],.int 8)]
theorem many_loop(C:Fn→List PV→Out)(a b c o p q:Option PV):loopS (gNm 4) (w_l_bad_1 C) ((List.range 9).map fun i=>PV.int (0+(i:Nat))) [a,b,c,some (.ref 0),o,p,q] [.dct []]= .nx [a,b,c,some (.ref 0),some (.int 8),p,q] [.dct MANY]:=rfl
def DP(t:Bool):PV:=if t then .dct [(.inr [97],.lst [.dct [(.inr [97],.lst [.dct [(.inr [97],.lst [])]])]])] else .lst [.lst [.lst [.lst [.lst [.lst []]]]]]
def LB(w:List Nat)(t:Bool):List PV:= [.str (repL [97] 401),.int 1000000000000000000000000000000,.non,.tup [.str [97]],.str [97,9],.lst (repL [.int 1] 41),.dct MANY,.dct [(.inr [65],.int 1)],.dct [(.inr [],.int 1)],.dct [(.inr [97,98,99,100,101,102,103,104,105],.int 1)],.dct [(.inr w,.int 1)],.dct [(.inr [97],.int 1),(.inr [98,32,99],.int 2)],.dct [(.inl 5,.int 1)],.lst [DP t],.int (-1000000000000000000000000000000)]
def NoV(w:PV):Prop:=dat w=true∧∀ d,d≤6→isV d w=false
theorem rep_len{α:Type}(c:α)(n:Int):(repL [c] n).length=n.toNat:=by
 simp [repL]
theorem nov_succ{w:PV}(h1:dat w=true)(h2:∀ d,isV (d+1) w=false):NoV w:=⟨h1,fun d _=>by cases d with
 | zero=>rfl
 | succ d=>exact h2 d⟩
theorem nov_key{l:List Nat}{r:List (PK×PV)}(h1:dat (.dct ((.inr l,.int 1)::r))=true)(h:nameOk l=false):NoV (.dct ((.inr l,.int 1)::r)):=nov_succ h1 fun d=>by
 simp [isV,keyOk,h]
theorem CW_no:∀ l∈CW,nameOk l=false:=by decide+kernel
theorem CW_g:∀ l∈CW,keyG (.inr l)=true:=by decide+kernel
theorem LB_no{w:List Nat}(hw:w∈CW)(t:Bool):∀ x∈LB w t,NoV x:=by
 intro x hx
 simp only [LB,List.mem_cons,List.not_mem_nil,or_false] at hx
 rcases hx with rfl | rfl | rfl | rfl | rfl | rfl | rfl | rfl | rfl | rfl | rfl | rfl | rfl | rfl | rfl
 ·refine nov_succ (by rw [dat,rep_len];decide) fun d=>?_
  have:¬ (repL [97] 401).length≤400:=by rw [rep_len];decide
  simp only [isV,decide_eq_false this,Bool.false_and]
 ·exact nov_succ rfl fun d=>by simp only [isV];decide
 ·exact nov_succ rfl fun d=>rfl
 ·exact nov_succ rfl fun d=>rfl
 ·exact nov_succ (by decide) fun d=>by simp only [isV];decide+kernel
 ·refine nov_succ (mk_lst fun x hx=>?_) fun d=>?_
  ·simp only [repL,List.mem_flatten,List.mem_replicate] at hx
   obtain ⟨l,⟨_,rfl⟩,hx⟩:=hx
   rw [List.mem_singleton.mp hx];rfl
  ·have:¬ (repL [PV.int 1] 41).length≤40:=by rw [rep_len];decide
   simp only [isV,decide_eq_false this,Bool.false_and]
 ·exact nov_succ (by decide+kernel) fun d=>rfl
 ·exact nov_key (by decide+kernel) (by decide+kernel)
 ·exact nov_key (by decide+kernel) (by decide+kernel)
 ·exact nov_key (by decide+kernel) (by decide+kernel)
 ·exact nov_key (mk_dct (fun p hp=>by rw [List.mem_singleton.mp hp];exact ⟨CW_g w hw,rfl⟩) (by simp)) (CW_no w hw)
 ·refine nov_succ (by decide+kernel) fun d=>?_
  have:nameOk [98,32,99]=false:=by decide+kernel
  simp [isV,keyOk,this]
 ·exact nov_succ (by decide+kernel) fun d=>by simp [isV,keyOk]
 ·cases t with
  | true=>
   refine ⟨by decide+kernel,fun d hd=>?_⟩
   rcases d with _ | _ | _ | _ | _ | _ | _ | d
   ·rfl
   ·rfl
   ·rfl
   ·rfl
   ·decide+kernel
   ·decide+kernel
   ·decide+kernel
   ·omega
  | false=>
   refine ⟨by decide+kernel,fun d hd=>?_⟩
   rcases d with _ | _ | _ | _ | _ | _ | _ | d
   ·rfl
   ·rfl
   ·rfl
   ·rfl
   ·rfl
   ·rfl
   ·rfl
   ·omega
 ·exact nov_succ rfl fun d=>by simp only [isV];decide
theorem dat_in{xs:List PV}{i:Int}{v:PV}(e:atI xs i=some v):v∈xs:=by
 unfold atI at e
 rw [Option.bind_eq_some_iff] at e
 obtain ⟨j,_,e⟩:=e
 exact List.mem_of_getElem? e
theorem bad_eq(k:Nat)(c:Int):∃ w,F (k+1) .l_bad [.int c]= .ok w∧NoV w:=by
 have g1:0≤c / 15 % 11:=Int.emod_nonneg _ (by decide)
 have g2:c / 15 % 11<11:=Int.emod_lt_of_pos _ (by decide)
 have g3:0≤c % 15:=Int.emod_nonneg _ (by decide)
 have g4:c % 15<15:=Int.emod_lt_of_pos _ (by decide)
 obtain ⟨w,hw,e1⟩:∃ w,w∈CW∧atI (CW.map PV.str) (c / 15 % 11)=some (.str w):=by
  have z:=atI_getD (xs:=CW.map PV.str) PV.non g1 (by simpa [CW] using g2)
  have hm:=dat_in z
  obtain ⟨w,hw,e⟩:=List.mem_map.mp hm
  exact ⟨w,hw,by rw [z,← e]⟩
 have e1':atI [PV.str [97,115],.str [98,101,116,119,101,101,110],.str [98,111,100,121],.str [101,108,115,101],.str [101,110,100],.str [102,111,114],.str [105,102],.str [105,110],.str [112,105,101,99,101],.str [117,115,101],.str [119,105,116,104]] (c / 15 % 11)=some (.str w):=e1
 have e2:=atI_getD (xs:=LB w (decide (c % 2=0))) PV.non g3 (by simpa [LB] using g4)
 have nv:=LB_no hw (decide (c % 2=0)) _ (dat_in e2)
 refine ⟨_,?_,nv⟩
 generalize (LB w (decide (c % 2=0))).getD (c % 15).toNat PV.non=v at *
 have fv:=frz_d nv.1
 have dv:=dr_d nv.1
 show runF (b_l_bad (F k)) 1 7 [.int c]=_
 have pw:∀ h,pPow (.int 10) (.int 30) h= .ok (.int 1000000000000000000000000000000) h:=fun h=>by kernel_rfl
 have b1:bel 1048576 401=true:=by decide
 have b2:bel 4611686018427387904 9=true:=by decide
 have pm:∀ h,pMul (.lst [.int 1]) (.int 41) h= .ok (.lst (repL [.int 1] 41)) h:=fun h=>rfl
 have zm:=fz_d0 (l:=MANY) [] (by decide+kernel)
 have d2:∀ ρ h,cDict [((cK (.str [97])),(cK (.int 1))),((cK (.str [98,32,99])),(cK (.int 2)))] ρ h= .ok (.dct [(.inr [97],.int 1),(.inr [98,32,99],.int 2)]) h:=fun _ _=>rfl
 cases q:decide (c % 2=0) with
 | true=>
  rw [q] at e2
  simp only [LB,DP,if_true] at e2
  simp only [EV,runF,b_l_bad,pEq_ii,q,ev_dict1,key_s,key_i,d2,many_loop,zm,pw,b1,b2,pm,Nat.one_mul,Int.reduceToNat,e1',e2,fv,dv,finO]
 | false=>
  rw [q] at e2
  simp only [LB,DP,Bool.false_eq_true,if_false] at e2
  simp only [EV,runF,b_l_bad,pEq_ii,q,ev_dict1,key_s,key_i,d2,many_loop,zm,pw,b1,b2,pm,Nat.one_mul,Int.reduceToNat,e1',e2,fv,dv,finO]
theorem emod_nat(c:Int){n:Nat}(hn:0<n):∃ i:Nat,c % (n:Int)=(i:Int)∧i<n:=by
 have h1:0≤c % (n:Int):=Int.emod_nonneg _ (by omega)
 have h2:c % (n:Int)<(n:Int):=Int.emod_lt_of_pos _ (by omega)
 exact ⟨(c % (n:Int)).toNat,by omega,by omega⟩
theorem all_no{l:List PV}{f:PV→Bool}{x:PV}(hx:x∈l)(h:f x=false):l.all f=false:=List.all_eq_false.mpr ⟨x,hx,by rw [h];decide⟩
theorem spoilt_bad(k:Nat)(v:PV)(c e:Int)(dv:∀ h,derefP h v=v)
  (h1:∀ h,(tAndE (tTruE (cN pIsinst (aCons (cVar 0) (aCons (cK (.ty "list")) aNil)))) (tAndE (tCmpE (c2 pGt (cN pLen (aCons (cVar 0) aNil)) (cK (.int 0)))) (tCmpE (c2 pGt (c2 pMod (cVar 1) (cK (.int 3))) (cK (.int 0)))))) [some v,some (.int c),some (.int e),none,none,none] h= .ok false h)
  (h2:∀ h,(tAndE (tTruE (cN pIsinst (aCons (cVar 0) (aCons (cK (.ty "dict")) aNil)))) (tAndE (tCmpE (c2 pGt (cN pLen (aCons (cVar 0) aNil)) (cK (.int 0)))) (tCmpE (c2 pGt (c2 pMod (cVar 1) (cK (.int 3))) (cK (.int 0)))))) [some v,some (.int c),some (.int e),none,none,none] h= .ok false h):∃ w,F (k+2) .l_spoilt [v,.int c,.int e]= .ok w∧NoV w:=by
 obtain ⟨w,ew,nw⟩:=bad_eq k (c / 3)
 refine ⟨w,?_,nw⟩
 show runF (b_l_spoilt (F (k+1))) 3 6 [v,.int c,.int e]=_
 have fw:=frz_d nw.1
 have env: [v,PV.int c,PV.int e].map some++List.replicate (6 - [v,PV.int c,PV.int e].length) none= [some v,some (.int c),some (.int e),none,none,none]:=rfl
 unfold runF b_l_spoilt
 rw [env,if_pos (show [v,PV.int c,PV.int e].length=3 from rfl),ev_sSeq,ev_sIf,h1]
 simp only [bThen_ok,Bool.false_eq_true,if_false,ev_sNil]
 rw [ev_sSeq,ev_sIf,h2]
 simp only [EV,callO_def,ew,fw,finO]
theorem spoilt_eq:∀ (d N:Nat) (v:PV) (c e:Int),d≤6→d+2≤N→isV d v=true→dat v=true→∃ w,F N .l_spoilt [v,.int c,.int e]= .ok w∧isV d w=false∧dat w=true
 | 0,_,_,_,_,_,_,h,_=>by simp [isV] at h
 | d+1,N,v,c,e,hd,hN,hv,hp=>by
  obtain ⟨k,rfl⟩:∃ k,N=k+3+d:=⟨N - 3 - d,by omega⟩
  have fin:(∃ w,F (k+1+d+2) .l_spoilt [v,.int c,.int e]= .ok w∧NoV w)→∃ w,F (k+3+d) .l_spoilt [v,.int c,.int e]= .ok w∧isV (d+1) w=false∧dat w=true:=by
   rintro ⟨w,h1,h2⟩
   rw [show k+1+d+2=k+3+d by omega] at h1
   exact ⟨w,h1,h2.2 (d+1) hd,h2.1⟩
  have dv:=dr_d hp
  have ih:=fun x c e=>spoilt_eq d (k+2+d) x c e (by omega) (by omega)
  have eN:k+3+d=(k+2+d)+1:=by omega
  cases v with
  | bl b=>exact fin (spoilt_bad (k+1+d) (.bl b) c e dv (fun h=>by simp only [EV]) fun h=>by simp only [EV])
  | int b=>exact fin (spoilt_bad (k+1+d) (.int b) c e dv (fun h=>by simp only [EV]) fun h=>by simp only [EV])
  | str b=>exact fin (spoilt_bad (k+1+d) (.str b) c e dv (fun h=>by simp only [EV]) fun h=>by simp only [EV])
  | lst xs=>
   by_cases h0:0<xs.length
   ·have g0:decide ((xs.length:Int)>0)=true:=decide_eq_true (by omega)
    cases q:decide (c % 3>0) with
    | false=>exact fin (spoilt_bad (k+1+d) (.lst xs) c e dv (fun h=>by simp only [EV,g0,q]) fun h=>by simp only [EV])
    | true=>
     obtain ⟨i,ei,hi⟩:=emod_nat (c / 3) h0
     obtain ⟨z1,z2⟩:=isV_lst hv
     have y1:=dat_lst hp
     have hm:xs[i]∈xs:=List.getElem_mem hi
     obtain ⟨w,ew,w1,w2⟩:=ih xs[i] (c / 7) (e - 1) (z2 _ hm) (y1 _ hm)
     have fx:=frz_d (y1 _ hm)
     have dx:=dr_d (y1 _ hm)
     have ai:atI xs (i:Int)=some xs[i]:=atI_at (by omega) (by simp [hi])
     have hw:dat (.lst (xs.take i++ [w]++xs.drop (i+1)))=true:=mk_lst fun x hx=>by
      rcases List.mem_append.mp hx with hx | hx
      ·rcases List.mem_append.mp hx with hx | hx
       ·exact y1 x (List.mem_of_mem_take hx)
       ·rw [List.mem_singleton.mp hx];exact w2
      ·exact y1 x (List.mem_of_mem_drop hx)
     refine ⟨.lst (xs.take i++ [w]++xs.drop (i+1)),?_,?_,hw⟩
     ·rw [eN]
      show runF (b_l_spoilt (F (k+2+d))) 3 6 [.lst xs,.int c,.int e]=_
      have fw:=frz_d hw
      have p0:decide (0<(xs.length:Int))=true:=decide_eq_true (by omega)
      have cf:=cut_from xs (i+1)
      have ct:=cut_to xs i
      have c1:(i:Int)+1=((i+1:Nat):Int):=by omega
      have l1:(xs.take i).length+1≤16777216:=by rw [List.length_take];omega
      have l2:(xs.take i++ [w]).length+(xs.drop (i+1)).length≤16777216:=by rw [List.length_append,List.length_take,List.length_drop,List.length_singleton];omega
      simp only [EV,runF,b_l_spoilt,g0,q,p0,ei,ai,c1,cf,ct,dx,fx,callO_def,ew,l1,l2,fw,finO]
     ·have:(xs.take i++ [w]++xs.drop (i+1)).all (isV d)=false:=all_no (x:=w) (by simp) w1
      rw [isV,this,Bool.and_false]
   ·have g0:decide ((xs.length:Int)>0)=false:=decide_eq_false (by omega)
    exact fin (spoilt_bad (k+1+d) (.lst xs) c e dv (fun h=>by simp only [EV,g0]) fun h=>by simp only [EV])
  | dct kvs=>
   by_cases h0:0<kvs.length
   ·have g0:decide ((kvs.length:Int)>0)=true:=decide_eq_true (by omega)
    cases q:decide (c % 3>0) with
    | false=>exact fin (spoilt_bad (k+1+d) (.dct kvs) c e dv (fun h=>by simp only [EV]) fun h=>by simp only [EV,g0,q])
    | true=>
     obtain ⟨z1,z2⟩:=isV_dct hv
     obtain ⟨y1,nd⟩:=dat_dct hp
     obtain ⟨ks,k1,k2,k3⟩:=strKs_ok fun p hp=>(z2 p hp).1
     obtain ⟨nm,y,p1,p2,p3⟩:=pick (c / 3) (List.length_pos_iff.mp h0) nd k2
     have hy:=(y1 _ p3).2
     have fy:=frz_d hy
     have dy:=dr_d hy
     obtain ⟨w,ew,w1,w2⟩:=ih y (c / 7) (e - 1) (z2 _ p3).2 hy
     have mk:(Sum.inr nm:PK)∈kvs.map (·.1):=List.mem_map.mpr ⟨_,p3,rfl⟩
     have kk:=putP_keys (v:=w) mk
     have hw:dat (.dct (putP kvs (.inr nm) w))=true:=mk_dct (fun p hp=>by
      have kp:p.1∈kvs.map (·.1):=by rw [← kk];exact List.mem_map.mpr ⟨p,hp,rfl⟩
      obtain ⟨p',hp',e'⟩:=List.mem_map.mp kp
      refine ⟨by rw [← e'];exact (y1 p' hp').1,?_⟩
      rcases putP_vals mk hp with h | h
      ·exact (y1 p h).2
      ·rw [h];exact w2) (by rw [kk];exact nd)
     refine ⟨.dct (putP kvs (.inr nm) w),?_,?_,hw⟩
     ·rw [eN]
      show runF (b_l_spoilt (F (k+2+d))) 3 6 [.dct kvs,.int c,.int e]=_
      have fw:=frz_d hw
      have p0:decide (0<(kvs.length:Int))=true:=decide_eq_true (by omega)
      have lk:ks.length<64:=by have:=congrArg List.length k2;simp at this;omega
      have so:=sorted_d0 [] k1 lk
      have ln:kvs.length<16777216:=by omega
      have zz:=fz_d0 (l:=putP kvs (.inr nm) w) [] (by have:=dat_pure _ hw;simpa [PV.pure] using this)
      simp only [EV,runF,b_l_spoilt,g0,q,p0,so,p1,p2,dy,fy,callO_def,ew,ln,zz,fw,finO]
     ·have:(putP kvs (.inr nm) w).all (fun kv=>isV d kv.2)=false:=List.all_eq_false.mpr ⟨_,putP_mem mk,by rw [w1];decide⟩
      rw [isV,this,Bool.and_false]
   ·have g0:decide ((kvs.length:Int)>0)=false:=decide_eq_false (by omega)
    exact fin (spoilt_bad (k+1+d) (.dct kvs) c e dv (fun h=>by simp only [EV]) fun h=>by simp only [EV,g0])
  | _=>simp [isV] at hv
def BD:Nat→Nat
 | 0=>0
 | 1=>402
 | 2=>16163
 | 3=>129379
 | 4=>388167
 | 5=>1164531
 | _=>3493623
theorem chr1:∀ c∈q_c3fcd3,(Builtin.Str.reprChar 34 c).length=1∧(Builtin.Str.reprChar 39 c).length=1:=by decide+kernel
theorem fold_one{f:Nat→Nat}:∀ {l:List Nat} {n:Nat},(∀ c∈l,f c=1)→l.foldl (fun n c=>n+f c) n=n+l.length
 | [],n,_=>rfl
 | c::r,n,h=>by
  rw [List.foldl_cons,h c (List.mem_cons_self ..),fold_one fun x hx=>h x (List.mem_cons_of_mem _ hx),List.length_cons];omega
theorem shown_az{l:List Nat}(h:∀ c∈l,c∈q_c3fcd3):(toE (.str l)).shown.length=l.length+2:=by
 rw [toE,PyData.shown,← reprLen_eq]
 have q:reprQuote (S l)=34∨reprQuote (S l)=39:=by unfold reprQuote;split<;>simp
 rw [← Array.foldl_toList,S_cps]
 rcases q with q | q
 ·rw [q,fold_one fun c hc=>(chr1 c (h c hc)).1];omega
 ·rw [q,fold_one fun c hc=>(chr1 c (h c hc)).2];omega
theorem shown_int{i:Int}(h:decide ((if i<0 then -i else i)<1000000000000000000000000000000)=true):(toE (.int i)).shown.length≤402:=by
 have h:=of_decide_eq_true h
 have hn:i.natAbs<10 ^ 30:=by split at h<;>omega
 have e:=int_text_length_le10 (k:=30) (by decide) hn
 rw [toE,PyData.shown]
 show (Str.ofString (toString i)).length≤402
 rw [ofString_length];omega
theorem shownAll_le{B:Nat}:∀ {xs:List PV},(∀ x∈xs,(toE x).shown.length≤B)→((PyData.shownAll (toEs xs)).map (·.length)).sum≤B * xs.length∧(PyData.shownAll (toEs xs)).length=xs.length
 | [],_=>by simp [toEs,PyData.shownAll]
 | x::r,h=>by
  obtain ⟨i1,i2⟩:=shownAll_le fun y hy=>h y (List.mem_cons_of_mem _ hy)
  have h0:=h x (List.mem_cons_self ..)
  rw [toEs,PyData.shownAll,List.map_cons,List.sum_cons,List.length_cons,List.length_cons,Nat.mul_add,Nat.mul_one]
  exact ⟨by omega,by omega⟩
theorem shown_lst{B:Nat}{xs:List PV}(h:∀ x∈xs,(toE x).shown.length≤B):(toE (.lst xs)).shown.length≤(B+2) * xs.length+3:=by
 rw [toE,PyData.shown]
 obtain ⟨i1,i2⟩:=shownAll_le h
 have:=listText_len_le (PyData.shownAll (toEs xs))
 rw [Nat.add_mul]
 omega
def smallK:PK→Prop
 | .inr l=>l.length≤3∧∀ c∈l,c∈q_c3fcd3
 | .inl _=>False
theorem shownKv_le{B:Nat}:∀ {xs:List (PK×PV)},(∀ p∈xs,smallK p.1∧(toE p.2).shown.length≤B)→((PyData.shownKv (toEk xs)).map (·.length)).sum≤(B+7) * xs.length∧(PyData.shownKv (toEk xs)).length=xs.length
 | [],_=>by simp [toEk,PyData.shownKv]
 | (q,v)::r,h=>by
  obtain ⟨i1,i2⟩:=shownKv_le fun y hy=>h y (List.mem_cons_of_mem _ hy)
  obtain ⟨h0,h1⟩:=h _ (List.mem_cons_self ..)
  cases q with
  | inl _=>exact h0.elim
  | inr l=>
   have e:=shown_az h0.2
   rw [toE] at e
   have hl:=h0.1
   rw [toEk,PyData.shownKv,List.map_cons,List.sum_cons,List.length_cons,List.length_cons,Nat.mul_add,Nat.mul_one,strLen_append,strLen_append]
   have k2:((": ":Str)).length=2:=by decide
   have e':(PyData.shown (keyE (Sum.inr l))).length=l.length+2:=e
   dsimp only at h1
   refine ⟨?_,by omega⟩
   rw [e',k2]
   omega
theorem shown_dct{B:Nat}{xs:List (PK×PV)}(h:∀ p∈xs,smallK p.1∧(toE p.2).shown.length≤B):(toE (.dct xs)).shown.length≤(B+9) * xs.length+3:=by
 rw [toE,PyData.shown]
 obtain ⟨i1,i2⟩:=shownKv_le h
 have:=dictText_len_le (PyData.shownKv (toEk xs))
 have e:(B+9) * xs.length=(B+7) * xs.length+2 * xs.length:=by rw [← Nat.add_mul]
 omega
structure Shw(n:Nat)(p:PV):Prop where
 dt:datE p=true
 dp:(toE p).depth≤n
 sh:(toE p).showable=true
theorem shw_lst{n:Nat}{xs:List PV}(h:∀ x∈xs,Shw n x):Shw (n+1) (.lst xs):=by
 have go:∀ {xs:List PV},(∀ x∈xs,Shw n x)→datEs xs=true∧PyData.depthAll (toEs xs)≤n∧PyData.showableAll (toEs xs)=true:=by
  intro xs
  induction xs with
  | nil=>intro _;simp [datEs,toEs,PyData.depthAll,PyData.showableAll]
  | cons x r ih=>
   intro h
   obtain ⟨a,b,c⟩:=ih fun y hy=>h y (List.mem_cons_of_mem _ hy)
   have q:=h x (List.mem_cons_self ..)
   rw [datEs,toEs,PyData.depthAll,PyData.showableAll,q.dt,q.sh,a,c]
   exact ⟨rfl,Nat.max_le.mpr ⟨q.dp,b⟩,rfl⟩
 obtain ⟨a,b,c⟩:=go h
 exact ⟨by rw [datE];exact a,by rw [toE,PyData.depth];omega,by rw [toE,PyData.showable];exact c⟩
theorem shw_dct{n:Nat}(hn:1≤n){xs:List (PK×PV)}(h:∀ p∈xs,keyOk p.1=true∧Shw n p.2):Shw (n+1) (.dct xs):=by
 have go:∀ {xs:List (PK×PV)},(∀ p∈xs,keyOk p.1=true∧Shw n p.2)→datEk xs=true∧PyData.depthKv (toEk xs)≤n∧PyData.showableKv (toEk xs)=true:=by
  intro xs
  induction xs with
  | nil=>intro _;simp [datEk,toEk,PyData.depthKv,PyData.showableKv]
  | cons p r ih=>
   intro h
   obtain ⟨a,b,c⟩:=ih fun y hy=>h y (List.mem_cons_of_mem _ hy)
   obtain ⟨h1,q⟩:=h p (List.mem_cons_self ..)
   obtain ⟨k,v⟩:=p
   obtain ⟨l,rfl,_⟩:=keyOk_str h1
   rw [datEk,toEk,PyData.depthKv,PyData.showableKv,q.dt,q.sh,a,c]
   have:=q.dp
   refine ⟨rfl,?_,by simp [keyE,PyData.showable]⟩
   simp only [keyE,PyData.depth]
   dsimp only at this
   omega
 obtain ⟨a,b,c⟩:=go h
 exact ⟨by rw [datE];exact a,by rw [toE,PyData.depth];omega,by rw [toE,PyData.showable];exact c⟩
theorem isV_shw:∀ (d:Nat) (p:PV),isV d p=true→Shw (d+1) p
 | 0,_,h=>by simp [isV] at h
 | d+1,p,h=>by
  cases p with
  | bl b=>exact ⟨rfl,by simp [toE,PyData.depth],by simp [toE,PyData.showable]⟩
  | int i=>
   refine ⟨rfl,by simp [toE,PyData.depth],?_⟩
   simp only [isV,decide_eq_true_eq] at h
   rw [toE,PyData.showable,decide_eq_true_eq]
   have hn:i.natAbs<2 ^ 1920:=by
    have:i.natAbs<10 ^ 30:=by split at h<;>omega
    exact Nat.lt_trans this (by decide+kernel)
   by_cases z:i.natAbs=0
   ·rw [z];decide
   ·exact (Nat.log2_lt z).mpr hn
  | str l=>exact ⟨rfl,by simp [toE,PyData.depth],by simp [toE,PyData.showable]⟩
  | lst xs=>exact shw_lst fun x hx=>isV_shw d x ((isV_lst h).2 x hx)
  | dct kvs=>exact shw_dct (by omega) fun p hp=>⟨((isV_dct h).2 p hp).1,isV_shw d p.2 ((isV_dct h).2 p hp).2⟩
  | _=>simp [isV] at h
structure Gv(d:Nat)(v:PV):Prop where
 is:isV d v=true
 dt:dat v=true
 ne:neD v=true
 sh:(toE v).shown.length≤BD d
def getO:Out→PV
 | .ok v=>v
 | .bad=>.non
theorem BD_ge{d:Nat}(h1:1≤d)(h2:d≤6):402≤BD d:=by
 rcases d with _ | _ | _ | _ | _ | _ | _ | d<;>first | omega | (simp [BD];done) | omega
theorem lb{d n:Nat}(h1:1≤d)(h2:d≤5)(hn:n≤if d=1 then 40 else 2):(BD d+2) * n+3≤BD (d+1):=by
 rcases d with _ | _ | _ | _ | _ | _ | d
 ·omega
 all_goals first | omega | (simp at hn;simp only [BD];omega)
theorem db{d n:Nat}(h1:1≤d)(h2:d≤5)(hn:n≤if d<3 then 8 else 3):(BD d+9) * n+3≤BD (d+1):=by
 rcases d with _ | _ | _ | _ | _ | _ | d
 ·omega
 all_goals first | omega | (simp at hn;simp only [BD];omega)
theorem gv_str{d:Nat}{l:List Nat}(h1:1≤d)(h2:d≤6)(hl:l.length≤400)(hs:∀ c∈l,c∈q_e84fa8)(sh:(toE (.str l)).shown.length≤402):Gv d (.str l):=by
 obtain ⟨e,rfl⟩:∃ e,d=e+1:=⟨d - 1,by omega⟩
 refine ⟨?_,by rw [dat];exact decide_eq_true (by omega),rfl,Nat.le_trans sh (BD_ge h1 h2)⟩
 rw [isV,decide_eq_true hl,Bool.true_and,List.all_eq_true]
 exact fun c hc=>List.contains_iff_mem.mpr (hs c hc)
theorem gv_int{d:Nat}{i:Int}(h1:1≤d)(h2:d≤6)(hi:decide ((if i<0 then -i else i)<1000000000000000000000000000000)=true):Gv d (.int i):=by
 obtain ⟨e,rfl⟩:∃ e,d=e+1:=⟨d - 1,by omega⟩
 exact ⟨by rw [isV];exact hi,rfl,rfl,Nat.le_trans (shown_int hi) (BD_ge h1 h2)⟩
theorem gv_bl{d:Nat}(b:Bool)(h1:1≤d)(h2:d≤6):Gv d (.bl b):=by
 obtain ⟨e,rfl⟩:∃ e,d=e+1:=⟨d - 1,by omega⟩
 refine ⟨rfl,rfl,rfl,Nat.le_trans ?_ (BD_ge h1 h2)⟩
 cases b<;>decide
theorem AZ_SG:∀ c∈q_c3fcd3,c∈q_e84fa8:=by decide+kernel
theorem mem_rep{c x:Nat}{n:Int}(h:x∈repL [c] n):x=c:=by
 simp only [repL,List.mem_flatten,List.mem_replicate] at h
 obtain ⟨l,⟨_,rfl⟩,hx⟩:=h
 exact List.mem_singleton.mp hx
theorem gv_rep{d:Nat}{c:Nat}{n:Int}(h1:1≤d)(h2:d≤6)(hc:c∈q_c3fcd3)(hn:n≤400):Gv d (.str (repL [c] n)):=by
 have az:∀ x∈repL [c] n,x∈q_c3fcd3:=fun x hx=>by rw [mem_rep hx];exact hc
 have ln:=rep_len c n
 refine gv_str h1 h2 (by omega) (fun x hx=>AZ_SG x (az x hx)) ?_
 rw [shown_az az];omega
def LS(m:Int):List PV:= [.str [],.str (repL [97] 400),.str [120,10,123],.str (repL [98] (m % 400))]
theorem LS_ok{d:Nat}(m:Int)(h1:1≤d)(h2:d≤6):∀ v∈LS m,Gv d v:=by
 intro v hv
 simp only [LS,List.mem_cons,List.not_mem_nil,or_false] at hv
 have g2:m % 400<400:=Int.emod_lt_of_pos _ (by decide)
 rcases hv with rfl | rfl | rfl | rfl
 ·exact gv_str h1 h2 (by decide) (by simp) (by decide+kernel)
 ·exact gv_rep h1 h2 (by decide) (by decide)
 ·exact gv_str h1 h2 (by decide) (by decide+kernel) (by decide+kernel)
 ·exact gv_rep h1 h2 (by decide) (by omega)
def LI(m:Int):List PV:= [.int 0,.int 999999999999999999999999999999,.int (-999999999999999999999999999999),.int m]
theorem LI_ok{d:Nat}{m:Int}(h1:1≤d)(h2:d≤6)(m1:0≤m)(m2:m<2147483647):∀ v∈LI m,Gv d v:=by
 intro v hv
 simp only [LI,List.mem_cons,List.not_mem_nil,or_false] at hv
 rcases hv with rfl | rfl | rfl | rfl
 ·exact gv_int h1 h2 (by decide)
 ·exact gv_int h1 h2 (by decide)
 ·exact gv_int h1 h2 (by decide)
 ·exact gv_int h1 h2 (decide_eq_true (by rw [if_neg (by omega)];omega))
theorem at4{xs:List PV}(hl:xs.length=4)(m:Int):∃ v,v∈xs∧atI xs (m % 4)=some v:=by
 have h1:0≤m % 4:=Int.emod_nonneg _ (by decide)
 have h2:m % 4<4:=Int.emod_lt_of_pos _ (by decide)
 have z:=atI_getD (xs:=xs) PV.non h1 (by omega)
 exact ⟨_,dat_in z,z⟩
def kindOf(t:Bool)(c:Int):Int:=if t=true then c % 7 % 4 else c % 7
theorem vb_text(k:Nat)(c:Int)(d:Nat)(t:Bool)(v:PV)(hd:d≤6)(ht:decide ((d:Int)<2)=t)(hk:kindOf t c=0)(e:atI (LS (mix (c / 7) d)) (mix (c / 7) d % 4)=some v)(hv:dat v=true):F (k+2) .l_value_by [.int c,.int d]= .ok v:=by
 show runF (b_l_value_by (F (k+1))) 2 8 [.int c,.int d]=_
 have mx:=mixed k (c / 7) d (by omega)
 have f:=frz_d hv
 have dv:=dr_d hv
 generalize mix (c / 7) d=m at *
 have g1:0≤m % 400:=Int.emod_nonneg _ (by decide)
 have g2:m % 400<400:=Int.emod_lt_of_pos _ (by decide)
 have b1:bel 1048576 400=true:=by decide
 have b2:bel 1048576 (m % 400)=true:=bel_iff.mpr (by omega)
 have z2:(m % 400).toNat≤1048576:=by omega
 have t0:decide ((0:Int)=0)=true:=rfl
 unfold LS at e
 cases t with
 | true=>
  have hk:c % 7 % 4=0:=hk
  simp only [EV,runF,b_l_value_by,callO_def,mx,ht,hk,pEq_ii,t0,b1,b2,z2,e,f,dv,Nat.one_mul,Int.reduceToNat,finO]
 | false=>
  have hk:c % 7=0:=hk
  simp only [EV,runF,b_l_value_by,callO_def,mx,ht,hk,pEq_ii,t0,b1,b2,z2,e,f,dv,Nat.one_mul,Int.reduceToNat,finO]
theorem vb_int(k:Nat)(c:Int)(d:Nat)(t:Bool)(v:PV)(hd:d≤6)(ht:decide ((d:Int)<2)=t)(hk:kindOf t c=1)(e:atI (LI (mix (c / 7) d)) (mix (c / 7) d % 4)=some v)(hv:dat v=true):F (k+2) .l_value_by [.int c,.int d]= .ok v:=by
 show runF (b_l_value_by (F (k+1))) 2 8 [.int c,.int d]=_
 have mx:=mixed k (c / 7) d (by omega)
 have f:=frz_d hv
 have dv:=dr_d hv
 generalize mix (c / 7) d=m at *
 have pw:∀ h,pPow (.int 10) (.int 30) h= .ok (.int 1000000000000000000000000000000) h:=fun h=>by kernel_rfl
 have t0:decide ((1:Int)=0)=false:=rfl
 have t1:decide ((1:Int)=1)=true:=rfl
 unfold LI at e
 cases t with
 | true=>
  have hk:c % 7 % 4=1:=hk
  simp only [EV,runF,b_l_value_by,callO_def,mx,ht,hk,pEq_ii,t0,t1,pw,e,f,dv,finO]
 | false=>
  have hk:c % 7=1:=hk
  simp only [EV,runF,b_l_value_by,callO_def,mx,ht,hk,pEq_ii,t0,t1,pw,e,f,dv,finO]
theorem vb_bool(k:Nat)(c:Int)(d:Nat)(t:Bool)(hd:d≤6)(ht:decide ((d:Int)<2)=t)(h2:2≤kindOf t c)(h3:kindOf t c<4):F (k+2) .l_value_by [.int c,.int d]= .ok (.bl (decide (mix (c / 7) d % 2=0))):=by
 show runF (b_l_value_by (F (k+1))) 2 8 [.int c,.int d]=_
 have mx:=mixed k (c / 7) d (by omega)
 generalize mix (c / 7) d=m at *
 have t0:decide (kindOf t c=0)=false:=decide_eq_false (by omega)
 have t1:decide (kindOf t c=1)=false:=decide_eq_false (by omega)
 have t2:decide (kindOf t c<4)=true:=decide_eq_true h3
 cases t with
 | true=>
  simp only [kindOf,if_true] at t0 t1 t2
  simp only [EV,runF,b_l_value_by,callO_def,mx,ht,pEq_ii,t0,t1,t2,finO]
 | false=>
  simp only [kindOf,Bool.false_eq_true,if_false] at t0 t1 t2
  simp only [EV,runF,b_l_value_by,callO_def,mx,ht,pEq_ii,t0,t1,t2,finO]
theorem at2(b:Bool)(x y:Int):atI [PV.int x,.int y] (if b=true then 1 else 0)=some (.int (if b=true then y else x)):=by cases b<;>rfl
theorem vb_list(k:Nat)(c:Int)(d:Nat)(h1:1≤d)(h5:d≤5)(hk:c % 7=4)(ih:∀ x:Int,∃ v,F (k+1) .l_value_by [.int x,.int d]= .ok v∧Gv d v):∃ v,F (k+2) .l_value_by [.int c,.int ((d+1:Nat):Int)]= .ok v∧Gv (d+1) v:=by
 have mx:=mixed k (c / 7) (d+1) (by omega)
 generalize hm:mix (c / 7) ((d+1:Nat):Int)=m at *
 obtain ⟨v,hv,e⟩:=at4 (xs:= [.int 0,.int 1,.int 2,.int (if decide (((d+1:Nat):Int)=2)=true then 40 else 2)]) rfl m
 obtain ⟨n,rfl,hn⟩:∃ n:Nat,v= .int n∧n≤if d=1 then 40 else 2:=by
  simp only [List.mem_cons,List.not_mem_nil,or_false] at hv
  rcases hv with rfl | rfl | rfl | rfl
  ·exact ⟨0,rfl,by omega⟩
  ·exact ⟨1,rfl,by split<;>omega⟩
  ·exact ⟨2,rfl,by split<;>omega⟩
  ·by_cases q:d=1
   ·subst q;exact ⟨40,rfl,by decide⟩
   ·exact ⟨2,by rw [if_neg (by simp;omega)];rfl,by rw [if_neg q];omega⟩
 have g:∀ x:Int,F (k+1) .l_value_by [.int x,.int d]= .ok (getO (F (k+1) .l_value_by [.int x,.int d]))∧Gv d (getO (F (k+1) .l_value_by [.int x,.int d])):=fun x=>by
  obtain ⟨v,e1,e2⟩:=ih x
  rw [e1];exact ⟨rfl,e2⟩
 let f:Nat→PV:=fun j=>getO (F (k+1) .l_value_by [.int (m / (1+(j:Int))+(j:Int)),.int d])
 have gf:∀ j,Gv d (f j):=fun j=>(g _).2
 have mem:∀ x∈(List.range n).map f,Gv d x:=fun x hx=>by
  obtain ⟨j,_,rfl⟩:=List.mem_map.mp hx
  exact gf j
 have hl:((List.range n).map f).length=n:=by simp
 have hdat:dat (.lst ((List.range n).map f))=true:=mk_lst fun x hx=>(mem x hx).dt
 refine ⟨.lst ((List.range n).map f),?_,?_,hdat,rfl,?_⟩
 ·show runF (b_l_value_by (F (k+1))) 2 8 [.int c,.int ((d+1:Nat):Int)]=_
  have ht:decide (((d+1:Nat):Int)<2)=false:=decide_eq_false (by omega)
  have t0:decide ((4:Int)=0)=false:=rfl
  have t1:decide ((4:Int)=1)=false:=rfl
  have t2:decide ((4:Int)<4)=false:=rfl
  have t4:decide ((4:Int)=4)=true:=rfl
  have b1:bel 4611686018427387904 (n:Int)=true:=bel_iff.mpr (by split at hn<;>omega)
  have ln:((List.range n).map fun i=>PV.int (0+((i:Nat):Int))).length<16777216:=by simp;split at hn<;>omega
  have cm:∀ cp h,cp= [some (.int ((d+1:Nat):Int)),some (.int m)]→compL tYesE (e_l_value_by_1 (F (k+1))) cp ((List.range n).map fun i=>PV.int (0+((i:Nat):Int))) h= .ok ((List.range n).map f) h:=by
   rintro cp h rfl
   rw [compL_map (f:=fun p=>match p with | .int j=>getO (F (k+1) .l_value_by [.int (m / (1+j)+j),.int d]) | _=>.non)]
   ·simp [Function.comp_def,f]
   ·intro p hp
    obtain ⟨j,hj,rfl⟩:=List.mem_map.mp hp
    obtain ⟨v,e1,_⟩:=ih (m / (1+(j:Int))+(j:Int))
    have pos:decide (0<1+(j:Int)∧1+(j:Int)<1073741824)=true:=decide_eq_true (by have:=List.mem_range.mp hj;split at hn<;>omega)
    have c1:((d+1:Nat):Int) - 1=(d:Int):=by omega
    rw [show (0:Int)+((j:Nat):Int)=(j:Int) by omega]
    simp only [EV,e_l_value_by_1,pos,c1,callO_def,e1,getO]
  have cm2:=fun h=>cm (capP [1,3] [some (.int c),some (.int ((d+1:Nat):Int)),some (.int 4),some (.int m),some (.int (n:Int)),none,none,none]) h rfl
  have fz:=frz_d hdat
  simp only [EV,runF,b_l_value_by,callO_def,mx,ht,hk,pEq_ii,t0,t1,t2,t4,at2,e,b1,Int.toNat_natCast,ln,cm2,fz,finO]
 ·rw [isV,hl,decide_eq_true (by split at hn<;>omega),Bool.true_and,List.all_eq_true]
  exact fun x hx=>(mem x hx).is
 ·have z:=shown_lst fun x hx=>(mem x hx).sh
  rw [hl] at z
  exact Nat.le_trans z (lb h1 h5 hn)
def fld(j i:Nat):List Nat:=cut [97,98,99,100,101,102,103,104] (some (i:Int)) (some ((i:Int)+1+(j:Int)))
theorem fld_ok:∀ j<3,∀ i<8,nameOk (fld j i)=true∧(fld j i).length≤3∧(∀ c∈fld j i,c∈q_c3fcd3)∧keyG (.inr (fld j i))=true:=by decide+kernel
theorem fld_ne:∀ j<3,∀ i<8,∀ x<i,fld j x≠fld j i:=by decide+kernel
section
variable (C:Fn→List PV→Out) (m:Int) (d j:Nat)
def ents(i:Nat):List (PK×PV):=(List.range i).map fun x=>(.inr (fld j x),getO (C .l_value_by [.int (m / (3+(x:Int))+5 * (x:Int)),.int d]))
theorem ents_succ(i:Nat):ents C m d j (i+1)=ents C m d j i++ [(.inr (fld j i),getO (C .l_value_by [.int (m / (3+(i:Int))+5 * (i:Int)),.int d]))]:=by
 unfold ents
 rw [List.range_succ,List.map_append];rfl
theorem ents_keys(i:Nat):(ents C m d j i).map (·.1)=(List.range i).map fun x=>.inr (fld j x):=by
 unfold ents
 rw [List.map_map];rfl
theorem ents_nd{i:Nat}(hj:j<3)(hi:i≤8):((ents C m d j i).map (·.1)).Nodup:=by
 rw [ents_keys]
 rw [List.nodup_iff_pairwise_ne,List.pairwise_map]
 refine List.pairwise_lt_range.imp_of_mem fun {a b} ha hb hab e=>?_
 have hb:=List.mem_range.mp hb
 exact fld_ne j hj b (by omega) a hab (Sum.inr.inj e)
theorem ents_new{i:Nat}(hj:j<3)(hi:i<8):(Sum.inr (fld j i):PK)∉(ents C m d j i).map (·.1):=by
 rw [ents_keys]
 intro h
 obtain ⟨x,hx,e⟩:=List.mem_map.mp h
 exact fld_ne j hj i hi x (List.mem_range.mp hx) (Sum.inr.inj e)
theorem ents_loop(n:Nat)(hj:j<3)(hn:n≤8)(hm:m / 3 % 3=(j:Int))(ih:∀ x:Int,∃ v,C .l_value_by [.int x,.int d]= .ok v∧Gv d v)(a b:Option PV):∀ (r i:Nat) (o6 o7:Option PV),i+r=n→
  ∃ o6' o7',loopS (gNm 6) (w_l_value_by_2 C) ((List.range' i r).map fun x=>PV.int (0+((x:Nat):Int))) [a,some (.int ((d+1:Nat):Int)),b,some (.int m),none,some (.ref 0),o6,o7] [.dct (ents C m d j i)]= .nx [a,some (.int ((d+1:Nat):Int)),b,some (.int m),none,some (.ref 0),o6',o7'] [.dct (ents C m d j n)]
 | 0,i,o6,o7,e=>⟨o6,o7,by
  obtain rfl:i=n:=by omega
  rfl⟩
 | r+1,i,o6,o7,e=>by
  obtain ⟨o6',o7',w⟩:=ents_loop n hj hn hm ih a b r (i+1) (some (.int (i:Int))) (some (.str (fld j i))) (by omega)
  refine ⟨o6',o7',?_⟩
  obtain ⟨v,ev,gv⟩:=ih (m / (3+(i:Int))+5 * (i:Int))
  rw [List.range'_succ,List.map_cons,ev_loop]
  have f:=frz_d gv.dt
  have pos:decide (0<3+(i:Int)∧3+(i:Int)<1073741824)=true:=decide_eq_true (by omega)
  have c1:((d+1:Nat):Int) - 1=(d:Int):=by omega
  have m5:mulC 5 (i:Int)=true:=mulC_l rfl
  have z0:(0:Int)+((i:Nat):Int)=(i:Int):=by omega
  have ln:(ents C m d j i).length<16777216:=by unfold ents;simp;omega
  have pn:=putP_new (v:=v) (ents_new C m d j hj (show i<8 by omega))
  have es:=ents_succ C m d j i
  rw [ev] at es
  have fd:cut [97,98,99,100,101,102,103,104] (some (i:Int)) (some ((i:Int)+1+(j:Int)))=fld j i:=rfl
  simp only [getO] at es
  rw [es] at w
  simp only [EV,w_l_value_by_2,z0,hm,fd,pos,c1,m5,callO_def,ev,ln,pn]
  exact w
end
theorem vb_dict(k:Nat)(c:Int)(d:Nat)(h1:1≤d)(h5:d≤5)(hk:5≤c % 7)(ih:∀ x:Int,∃ v,F (k+1) .l_value_by [.int x,.int d]= .ok v∧Gv d v):∃ v,F (k+2) .l_value_by [.int c,.int ((d+1:Nat):Int)]= .ok v∧Gv (d+1) v:=by
 have mx:=mixed k (c / 7) (d+1) (by omega)
 have mr:=mix_range (c / 7) ((d+1:Nat):Int)
 generalize hm:mix (c / 7) ((d+1:Nat):Int)=m at *
 obtain ⟨j,hj,hj3⟩:=emod_nat (m / 3) (n:=3) (by decide)
 have hj:m / 3 % 3=(j:Int):=hj
 have g1:0≤m % 3:=Int.emod_nonneg _ (by decide)
 have g2:m % 3<3:=Int.emod_lt_of_pos _ (by decide)
 obtain ⟨n,en,hn,n1⟩:∃ n:Nat,(if (decide (m % 9=4)&&decide (((d+1:Nat):Int)<4))=true then (8:Int) else 1+m % 3)=(n:Int)∧(n≤if d<3 then 8 else 3)∧1≤n:=by
  by_cases q:(decide (m % 9=4)&&decide (((d+1:Nat):Int)<4))=true
  ·refine ⟨8,by rw [if_pos q];rfl,?_,by omega⟩
   rw [Bool.and_eq_true,decide_eq_true_eq,decide_eq_true_eq] at q
   rw [if_pos (by omega)];omega
  ·exact ⟨(1+m % 3).toNat,by rw [if_neg q];omega,by split<;>omega,by omega⟩
 have n8:n≤8:=by split at hn<;>omega
 have gE:∀ p∈ents (F (k+1)) m d j n,∃ x,x<n∧p.1= .inr (fld j x)∧Gv d p.2:=by
  intro p hp
  obtain ⟨x,hx,rfl⟩:=List.mem_map.mp hp
  obtain ⟨v,e1,e2⟩:=ih (m / (3+(x:Int))+5 * (x:Int))
  exact ⟨x,List.mem_range.mp hx,rfl,by dsimp only;rw [e1];exact e2⟩
 have hl:(ents (F (k+1)) m d j n).length=n:=by unfold ents;simp
 have hdat:dat (.dct (ents (F (k+1)) m d j n))=true:=mk_dct (fun p hp=>by
  obtain ⟨x,hx,e,g⟩:=gE p hp
  rw [e]
  exact ⟨(fld_ok j hj3 x (by omega)).2.2.2,g.dt⟩) (ents_nd _ m d j hj3 n8)
 refine ⟨.dct (ents (F (k+1)) m d j n),?_,?_,hdat,?_,?_⟩
 ·show runF (b_l_value_by (F (k+1))) 2 8 [.int c,.int ((d+1:Nat):Int)]=_
  have ht:decide (((d+1:Nat):Int)<2)=false:=decide_eq_false (by omega)
  have t0:decide (c % 7=0)=false:=decide_eq_false (by omega)
  have t1:decide (c % 7=1)=false:=decide_eq_false (by omega)
  have t2:decide (c % 7<4)=false:=decide_eq_false (by omega)
  have t4:decide (c % 7=4)=false:=decide_eq_false (by omega)
  obtain ⟨o6,o7,lp⟩:=ents_loop (F (k+1)) m d j n hj3 n8 hj ih (some (.int c)) (some (.int (c % 7))) n 0 none none (by omega)
  rw [← List.range_eq_range'] at lp
  have lp:loopS (gNm 6) (w_l_value_by_2 (F (k+1))) ((List.range n).map fun x=>PV.int (0+((x:Nat):Int))) [some (.int c),some (.int ((d+1:Nat):Int)),some (.int (c % 7)),some (.int m),none,some (.ref 0),none,none] [.dct []]=_:=lp
  have b1:bel 4611686018427387904 (n:Int)=true:=bel_iff.mpr (by omega)
  have zz:=fz_d0 (l:=ents (F (k+1)) m d j n) [] (by have:=dat_pure _ hdat;simpa [PV.pure] using this)
  have fz:=frz_d hdat
  have d9:decide (m % 9=4)=true∨decide (m % 9=4)=false:=by cases decide (m % 9=4)<;>simp
  rcases d9 with q | q
  ·rw [q,Bool.true_and] at en
   simp only [EV,runF,b_l_value_by,callO_def,mx,ht,pEq_ii,t0,t1,t2,t4,q,at2,en,b1,Int.toNat_natCast,lp,zz,fz,finO]
  ·rw [q,Bool.false_and] at en
   have en:1+m % 3=(n:Int):=en
   have a2:∀ x y:PV,atI [x,y] (if false=true then 1 else 0)=some x:=fun _ _=>rfl
   have a3:∀ x y:PV,atI [x,y] 0=some x:=fun _ _=>rfl
   simp only [EV,runF,b_l_value_by,callO_def,mx,ht,pEq_ii,t0,t1,t2,t4,q,a2,a3,en,b1,Int.toNat_natCast,lp,zz,fz,finO]
 ·rw [isV,hl,decide_eq_true (by omega),Bool.true_and,Bool.and_eq_true,List.all_eq_true,List.all_eq_true]
  refine ⟨fun p hp=>?_,fun p hp=>?_⟩
  ·obtain ⟨x,hx,e,g⟩:=gE p hp
   rw [e];exact (fld_ok j hj3 x (by omega)).1
  ·obtain ⟨x,hx,e,g⟩:=gE p hp
   exact g.is
 ·rw [neD,neDk_all,Bool.and_eq_true,List.all_eq_true]
  refine ⟨?_,fun p hp=>?_⟩
  ·cases q:ents (F (k+1)) m d j n with
   | nil=>rw [q] at hl;simp at hl;omega
   | cons _ _=>rfl
  ·obtain ⟨x,hx,e,g⟩:=gE p hp
   exact g.ne
 ·have z:=shown_dct (B:=BD d) fun p hp=>by
   obtain ⟨x,hx,e,g⟩:=gE p hp
   refine ⟨?_,g.sh⟩
   rw [e]
   exact ⟨(fld_ok j hj3 x (by omega)).2.1,(fld_ok j hj3 x (by omega)).2.2.1⟩
  rw [hl] at z
  exact Nat.le_trans z (db h1 h5 hn)
theorem value_by:∀ (d N:Nat) (c:Int),1≤d→d≤6→d+1≤N→∃ v,F N .l_value_by [.int c,.int d]= .ok v∧Gv d v
 | 0,_,_,h,_,_=>by omega
 | d+1,N,c,_,h6,hN=>by
  obtain ⟨k,rfl⟩:∃ k,N=k+2:=⟨N - 2,by omega⟩
  have mr:=mix_range (c / 7) ((d+1:Nat):Int)
  have leaf:∀ t,decide (((d+1:Nat):Int)<2)=t→0≤kindOf t c→kindOf t c<4→∃ v,F (k+2) .l_value_by [.int c,.int ((d+1:Nat):Int)]= .ok v∧Gv (d+1) v:=by
   intro t ht k0 k4
   have:kindOf t c=0∨kindOf t c=1∨2≤kindOf t c:=by omega
   rcases this with q | q | q
   ·obtain ⟨v,hv,e⟩:=at4 (xs:=LS (mix (c / 7) ((d+1:Nat):Int))) rfl (mix (c / 7) ((d+1:Nat):Int))
    have g:=LS_ok (d:=d+1) _ (by omega) h6 v hv
    exact ⟨v,vb_text k c (d+1) t v h6 ht q e g.dt,g⟩
   ·obtain ⟨v,hv,e⟩:=at4 (xs:=LI (mix (c / 7) ((d+1:Nat):Int))) rfl (mix (c / 7) ((d+1:Nat):Int))
    have g:=LI_ok (d:=d+1) (by omega) h6 mr.1 mr.2 v hv
    exact ⟨v,vb_int k c (d+1) t v h6 ht q e g.dt,g⟩
   ·exact ⟨_,vb_bool k c (d+1) t h6 ht q k4,gv_bl _ (by omega) h6⟩
  have c1:0≤c % 7:=Int.emod_nonneg _ (by decide)
  have c2:c % 7<7:=Int.emod_lt_of_pos _ (by decide)
  by_cases hd:d=0
  ·have c3:0≤c % 7 % 4:=Int.emod_nonneg _ (by decide)
   have c4:c % 7 % 4<4:=Int.emod_lt_of_pos _ (by decide)
   exact leaf true (decide_eq_true (by omega)) c3 c4
  ·by_cases q:c % 7<4
   ·exact leaf false (decide_eq_false (by omega)) c1 q
   ·have ih:=fun x=>value_by d (k+1) x (by omega) (by omega) (by omega)
    by_cases q4:c % 7=4
    ·exact vb_list k c d (by omega) (by omega) q4 ih
    ·exact vb_dict k c d (by omega) (by omega) (by omega) ih
def keyIn(ns:List (List Nat)):PK→Bool
 | .inr l=>decide (l∈ns)
 | .inl _=>false
def needOk(ns:List (List Nat))(kvs:List (PK×PV)):Bool:=ns.all (fun n=>(valP kvs (.inr n)).isSome)&&kvs.all (fun p=>keyIn ns p.1&&isV 6 p.2)
theorem need_loop1(C:Fn→List PV→Out)(t:PV)(kvs:List (PK×PV)):∀ (l:List (List Nat)) (o:Option PV),∃ o',loopS (gNm 2) (w_need_values_x_1 C) (l.map PV.str) [some t,some (.dct kvs),o] []=if l.all (fun n=>(valP kvs (.inr n)).isSome)=true then .nx [some t,some (.dct kvs),o'] [] else .exc (.cls 3) []
 | [],o=>⟨o,by simp⟩
 | x::r,o=>by
  obtain ⟨o',e⟩:=need_loop1 C t kvs r (some (.str x))
  refine ⟨o',?_⟩
  rw [List.map_cons,ev_loop,List.all_cons]
  cases hc:(valP kvs (.inr x)).isSome with
  | true=>
   simp only [EV,w_need_values_x_1,hc]
   simpa only [w_need_values_x_1,Bool.true_and] using e
  | false=>simp only [EV,w_need_values_x_1,ev_sRaise,hc]
theorem keyIn_r(ns:List (List Nat))(l:List Nat):keyIn ns (.inr l)=decide (l∈ns):=rfl
theorem keyPV_r(l:List Nat):keyPV (.inr l)= .str l:=rfl
theorem need_loop2(C:Fn→List PV→Out)(ns:List (List Nat))(kvs:List (PK×PV))(hn:∀ l∈ns,Lt l)(nd:(kvs.map (·.1)).Nodup):∀ (r:List (PK×PV)) (o:Option PV),(∀ p∈r,p∈kvs∧(∃ l,p.1= .inr l∧Lt l)∧dat p.2=true∧C .is_value [p.2]= .ok (.bl (isV 6 p.2)))→
  ∃ o',loopS (gNm 2) (w_need_values_x_2 C) (r.map fun p=>keyPV p.1) [some (.tup (ns.map PV.str)),some (.dct kvs),o] []=if r.all (fun p=>keyIn ns p.1&&isV 6 p.2)=true then .nx [some (.tup (ns.map PV.str)),some (.dct kvs),o'] [] else .exc (.cls 3) []
 | [],o,_=>⟨o,by simp⟩
 | (q,v)::r,o,h=>by
  obtain ⟨o',e⟩:=need_loop2 C ns kvs hn nd r (some (keyPV q)) fun p hp=>h p (List.mem_cons_of_mem _ hp)
  refine ⟨o',?_⟩
  obtain ⟨h1,⟨l,rfl,hl⟩,h3,h4⟩:=h _ (List.mem_cons_self ..)
  have ni:=nin_t hl hn
  have ev:=valP_mem nd h1
  have f:=frz_d h3
  have d:=dr_d h3
  dsimp only at h4
  rw [List.map_cons,ev_loop,List.all_cons]
  cases hc:decide (l∈ns) with
  | false=>simp only [EV,w_need_values_x_2,keyPV_r,ni,hc,ev_sRaise,keyIn_r]
  | true=>
   cases hv:isV 6 v with
   | false=>
    rw [hv] at h4
    simp only [EV,w_need_values_x_2,keyPV_r,ni,hc,ev,d,f,callO_def,h4,ev_sRaise,keyIn_r]
   | true=>
    rw [hv] at h4
    simp only [EV,w_need_values_x_2,keyPV_r,ni,hc,ev,d,f,callO_def,h4,keyIn_r]
    simpa only [w_need_values_x_2,Bool.true_and,keyPV_r] using e
structure NK(ns:List (List Nat))(kvs:List (PK×PV)):Prop where
 lt:∀ l∈ns,Lt l
 dt:dat (.dct kvs)=true
 st:∀ p∈kvs,∃ l,p.1= .inr l
theorem keyG_lt{l:List Nat}(h:keyG (.inr l)=true):Lt l:=by
 simp only [keyG,Bool.and_eq_true,decide_eq_true_eq,List.all_eq_true] at h
 exact fun c hc=>by simpa using h.2 c hc
def outX(b:Bool):OutX:=if b=true then .ok .non else .exc 3
theorem need_x(k:Nat){ns:List (List Nat)}{kvs:List (PK×PV)}(g:NK ns kvs)(hk:22≤k):XO (F k) .need_values [.tup (ns.map PV.str),.dct kvs]=outX (needOk ns kvs):=by
 obtain ⟨y1,nd⟩:=dat_dct g.dt
 obtain ⟨o1,l1⟩:=need_loop1 (F k) (.tup (ns.map PV.str)) kvs ns none
 have l2:=fun o=>need_loop2 (F k) ns kvs g.lt nd kvs o fun p hp=>⟨hp,by
  obtain ⟨l,e⟩:=g.st p hp
  exact ⟨l,e,keyG_lt (by rw [← e];exact (y1 p hp).1)⟩,(y1 p hp).2,is_value k p.2 hk (y1 p hp).2⟩
 have go:runX (x_need_values (F k)) 2 3 [.tup (ns.map PV.str),.dct kvs]=outX (needOk ns kvs):=by
  unfold needOk
  cases q:ns.all (fun n=>(valP kvs (.inr n)).isSome) with
  | false=>
   rw [q] at l1
   simp only [EV,runX,x_need_values,l1,finX,finO]
   rfl
  | true=>
   rw [q] at l1
   obtain ⟨o2,l2⟩:=l2 o1
   cases q2:kvs.all (fun p=>keyIn ns p.1&&isV 6 p.2) with
   | false=>
    rw [q2] at l2
    simp only [EV,runX,x_need_values,l1,l2,finX,finO]
    rfl
   | true=>
    rw [q2] at l2
    simp only [EV,runX,x_need_values,l1,l2,finX,finO]
    rfl
 show onlyX exs_ (runX (x_need_values (F k)) 2 3 [.tup (ns.map PV.str),.dct kvs])=_
 rw [go]
 cases needOk ns kvs<;>rfl
def VALS:PV:=.lst [.str [118,97,108,117,101,115]]
theorem class_3:FH .l_class [.exc 3]= .ok VALS:=by kernel_rfl
theorem needed_of(k:Nat)(t v:PV)(b:Bool)(ht:∀ h,frzV h t=some (t,h))(dt:∀ h,derefP h t=t)(hv:∀ h,frzV h v=some (v,h))(dv:∀ h,derefP h v=v)(x:XO (F k) .need_values [t,v]=outX b):F (k+2) .l_needed [t,v]= .ok (if b=true then .tup [.non] else VALS):=by
 show runF (b_l_needed (F (k+1)) (XP (k+1)) (UP (k+1))) 2 3 [t,v]=_
 have x:XP (k+1) .need_values [t,v]=outX b:=x
 cases b with
 | true=>
  have x:XP (k+1) .need_values [t,v]= .ok .non:=x
  have ft:∀ h,frzV h (.tup [.non])=some (.tup [.non],h):=fun h=>L3.frz_tup h rfl
  simp only [EV,runF,b_l_needed,ev_sTry,eThen_exc,ev_callX,callX_def,ht,dt,hv,dv,x,ft,finO]
 | false=>
  have x:XP (k+1) .need_values [t,v]= .exc 3:=x
  have ft:∀ h,frzV h VALS=some (VALS,h):=fun h=>L3.frz_lst h rfl
  have ct:cat_FormError 3=true:=rfl
  have u:UP (k+1) .l_class [.exc 3]= .ok VALS:=class_3
  have ex1:∀ h,frzV h (.exc 3)=some (.exc 3,h):=fun h=>frz_exc h 3
  have ex2:∀ h,derefP h (.exc 3)= .exc 3:=fun h=>rfl
  simp only [EV,runF,b_l_needed,ev_sTry,eThen_exc,ev_callX,callX_def,callO_def,ht,dt,hv,dv,x,ct,u,ex1,ex2,ft,finO]
theorem needed_eq(k:Nat){ns:List (List Nat)}{kvs:List (PK×PV)}(g:NK ns kvs)(hk:22≤k):F (k+2) .l_needed [.tup (ns.map PV.str),.dct kvs]= .ok (if needOk ns kvs=true then .tup [.non] else VALS):=
 needed_of k _ _ _ (frz_strs ns) (fun _=>rfl) (frz_d g.dt) (dr_d g.dt) (need_x k g hk)
theorem needed_no(k:Nat)(ns:List (List Nat))(v:PV)(hv:v= .non∨v= .lst []∨v= .tup (ns.map PV.str)∨v= .str [97,98]):F (k+2) .l_needed [.tup (ns.map PV.str),v]= .ok VALS:=by
 have fs:=frz_strs ns
 have go:(∀ h,pIsinst [v,.ty "dict"] h= .ok (.bl false) h)→(∀ h,derefP h v=v)→XO (F k) .need_values [.tup (ns.map PV.str),v]=outX false:=fun hi hd=>by
  have e:runX (x_need_values (F k)) 2 3 [.tup (ns.map PV.str),v]= .exc 3:=by
   simp only [EV,runX,x_need_values,hi,hd,ev_sRaise,finX,finO]
  show onlyX exs_ (runX (x_need_values (F k)) 2 3 [.tup (ns.map PV.str),v])=_
  rw [e];rfl
 rcases hv with rfl | rfl | rfl | rfl
 ·exact needed_of k _ _ false fs (fun _=>rfl) (fun h=>frz_non h) (fun _=>rfl) (go (fun _=>rfl) fun _=>rfl)
 ·exact needed_of k _ _ false fs (fun _=>rfl) (fun h=>L3.frz_lst h rfl) (fun _=>rfl) (go (fun _=>rfl) fun _=>rfl)
 ·exact needed_of k _ _ false fs (fun _=>rfl) fs (fun _=>rfl) (go (fun _=>rfl) fun _=>rfl)
 ·exact needed_of k _ _ false fs (fun _=>rfl) (fun h=>frz_str h _) (fun _=>rfl) (go (fun _=>rfl) fun _=>rfl)
def NM4:List (List Nat):= [[97],[98,98],[97,98,99],[120]]
def oth:List Nat:= [111,116,104,101,114]
structure Vs(ns:List (List Nat))(kvs:List (PK×PV)):Prop where
 keys:kvs.map (·.1)=ns.map Sum.inr
 dt:dat (.dct kvs)=true
 vs:∀ p∈kvs,isV 6 p.2=true
 sub:∀ l∈ns,l∈NM4
 ln:ns.length≤4
theorem NM4_lt:∀ l∈NM4,Lt l:=by decide
theorem NM4_no:oth∉NM4∧ [121]∉NM4:=by decide
section
variable {ns:List (List Nat)} {kvs:List (PK×PV)}
theorem st_of(e:kvs.map (·.1)=ns.map Sum.inr):∀ p∈kvs,∃ l,p.1= .inr l∧l∈ns:=fun p hp=>by
 have:p.1∈ns.map Sum.inr:=by rw [← e];exact List.mem_map.mpr ⟨p,hp,rfl⟩
 obtain ⟨l,hl,e⟩:=List.mem_map.mp this
 exact ⟨l,e.symm,hl⟩
theorem Vs.nk(V:Vs ns kvs):NK ns kvs:=⟨fun l hl=>NM4_lt l (V.sub l hl),V.dt,fun p hp=>let ⟨l,e,_⟩:=st_of V.keys p hp;⟨l,e⟩⟩
theorem Vs.at(V:Vs ns kvs){l:List Nat}(h:l∈ns):∃ v,(Sum.inr l,v)∈kvs:=by
 have:(Sum.inr l:PK)∈kvs.map (·.1):=by rw [V.keys];exact List.mem_map.mpr ⟨l,h,rfl⟩
 obtain ⟨⟨q,v⟩,hp,e⟩:=List.mem_map.mp this
 exact ⟨v,by rw [← e];exact hp⟩
theorem Vs.need(V:Vs ns kvs):needOk ns kvs=true:=by
 unfold needOk
 rw [Bool.and_eq_true,List.all_eq_true,List.all_eq_true]
 refine ⟨fun l hl=>?_,fun p hp=>?_⟩
 ·rw [valP_some,V.keys];exact List.mem_map.mpr ⟨l,hl,rfl⟩
 ·obtain ⟨l,e,hl⟩:=st_of V.keys p hp
  rw [e,V.vs p hp,keyIn_r,decide_eq_true hl];rfl
theorem need_key{p:PK×PV}(hp:p∈kvs)(h:(keyIn ns p.1&&isV 6 p.2)=false):needOk ns kvs=false:=by
 unfold needOk
 rw [List.all_eq_false.mpr ⟨p,hp,by rw [h];decide⟩,Bool.and_false]
theorem need_gone{l:List Nat}(hl:l∈ns):needOk ns (dropP kvs (.inr l))=false:=by
 unfold needOk
 rw [List.all_eq_false.mpr ⟨l,hl,?_⟩,Bool.false_and]
 rw [valP_some]
 intro h
 obtain ⟨p,hp,e⟩:=List.mem_map.mp h
 have:=(List.mem_filter.mp hp).2
 simp [e] at this
theorem nk_drop(g:NK ns kvs)(l:List Nat):NK ns (dropP kvs (.inr l)):=by
 obtain ⟨y1,nd⟩:=dat_dct g.dt
 refine ⟨g.lt,mk_dct (fun p hp=>y1 p (List.mem_filter.mp hp).1) ?_,fun p hp=>g.st p (List.mem_filter.mp hp).1⟩
 exact List.Nodup.sublist (List.Sublist.map _ List.filter_sublist) nd
theorem nk_put(g:NK ns kvs){l:List Nat}{v:PV}(hl:(Sum.inr l:PK)∈kvs.map (·.1))(hv:dat v=true):NK ns (putP kvs (.inr l) v):=by
 obtain ⟨y1,nd⟩:=dat_dct g.dt
 have kk:=putP_keys (v:=v) hl
 have old:∀ p∈putP kvs (.inr l) v,∃ p'∈kvs,p'.1=p.1:=fun p hp=>by
  have:p.1∈kvs.map (·.1):=by rw [← kk];exact List.mem_map.mpr ⟨p,hp,rfl⟩
  obtain ⟨p',h1,h2⟩:=List.mem_map.mp this
  exact ⟨p',h1,h2⟩
 refine ⟨g.lt,mk_dct (fun p hp=>?_) (by rw [kk];exact nd),fun p hp=>?_⟩
 ·obtain ⟨p',h1,h2⟩:=old p hp
  refine ⟨by rw [← h2];exact (y1 p' h1).1,?_⟩
  rcases putP_vals hl hp with h | h
  ·exact (y1 p h).2
  ·rw [h];exact hv
 ·obtain ⟨p',h1,h2⟩:=old p hp
  obtain ⟨l,e⟩:=g.st p' h1
  exact ⟨l,by rw [← h2];exact e⟩
theorem nk_more(g:NK ns kvs){l:List Nat}(hl:(Sum.inr l:PK)∉kvs.map (·.1))(hg:keyG (.inr l)=true)(i:Int):NK ns (kvs++ [(.inr l,.int i)]):=by
 obtain ⟨y1,nd⟩:=dat_dct g.dt
 refine ⟨g.lt,mk_dct (fun p hp=>?_) ?_,fun p hp=>?_⟩
 ·rcases List.mem_append.mp hp with h | h
  ·exact y1 p h
  ·rw [List.mem_singleton.mp h];exact ⟨hg,rfl⟩
 ·rw [List.map_append,List.nodup_append]
  refine ⟨nd,by simp,fun a ha b hb e=>?_⟩
  rw [List.map_cons,List.map_nil,List.mem_singleton] at hb
  rw [e,hb] at ha
  exact hl ha
 ·rcases List.mem_append.mp hp with h | h
  ·exact g.st p h
  ·rw [List.mem_singleton.mp h];exact ⟨l,rfl⟩
theorem at_name(c:Int)(hne:ns≠ []):∃ nm,nm∈ns∧atI (ns.map PV.str) (c % ((ns.map PV.str).length:Int))=some (.str nm)∧decide (0<((ns.map PV.str).length:Int))=true:=by
 have l0:0<(ns.map PV.str).length:=by rw [List.length_map];exact List.length_pos_iff.mpr hne
 obtain ⟨i,e,hi⟩:=emod_nat c l0
 have z:=atI_getD (xs:=ns.map PV.str) (i:=(i:Int)) PV.non (by omega) (by omega)
 obtain ⟨nm,hn,en⟩:=List.mem_map.mp (dat_in z)
 exact ⟨nm,hn,by rw [e,z,← en],decide_eq_true (by omega)⟩
end
theorem ne_nil{ls:List (List Nat)}(hl:∀ l∈ls,∀ c∈l,c<1114112)(h:List L3.PO):pNe (.lst (ls.map PV.str)) (.lst []) h= .ok (.bl (!ls.isEmpty)) h:=by
 have e:=eq_nil hl h
 unfold pEq at e
 unfold pNe
 split at e
 ·rename_i q
  rw [if_pos q]
  have:PyData.eqv (dOf h (.lst (ls.map PV.str))) (dOf h (.lst []))=ls.isEmpty:=by injection e with e1;injection e1
  rw [this]
 ·cases e
theorem eq_refl{p:PV}{h:List L3.PO}(ok:okD h p=true):pEq p p h= .ok (.bl true) h:=by
 unfold pEq
 rw [if_pos ⟨ok,ok⟩]
 unfold okD at ok
 rw [PySem.SeqAt.eqv_refl _ ((Bool.and_eq_true _ _).mp ok).1]
theorem vals_vals(h:List L3.PO):pEq VALS (.lst [.str [118,97,108,117,101,115]]) h= .ok (.bl true) h:=eq_refl (by
 unfold okD dOf VALS
 simp [toD,toDs,PyData.canLay0,PyData.canLayAll0,PyData.depth,PyData.depthAll,PyData.strOk,S])
noncomputable def firstR:Sx:=sSet 3 (c2 pIx (cN pLst (aCons (cK .non) (aCons (cN pLst aNil) (aCons (cN pDictM (aCons (cVar 1) aNil)) (aCons (cN pTuple (aCons (cVar 0) aNil)) (aCons (cK (.str [97,98])) aNil)))))) (c2 pMod (cVar 2) (cK (.int 5))))
noncomputable def secR(C:Fn→List PV→Out):Sx:=sIf (tAndE (tCmpE (c2 pEq (c2 pMod (cVar 2) (cK (.int 5))) (cK (.int 2)))) (tCmpE (c2 pNe (cVar 0) (cN pLst aNil)))) (sSeq (sSet 4 (c2 pIx (cVar 0) (c2 pMod (c2 pDiv (cVar 2) (cK (.int 5))) (cN pLen (aCons (cVar 0) aNil)))))
  (sSeq (sSetD (cVar 3) (cVar 4) (cCall (C .l_spoilt) (aCons (c2 pIx (cVar 1) (cVar 4)) (aCons (c2 pDiv (cVar 2) (cK (.int 20))) (aCons (cK (.int 6)) aNil)))))
  (sSeq (sIf (tNotE (tTruE (cCall (C .l_is) (aCons (cCall (C .is_value) (aCons (c2 pIx (cVar 3) (cVar 4)) aNil)) (aCons (cK (.bl false)) aNil))))) (sRet (cK (.bl false))) sNil)
  (sIf (tCmpE (c2 pEq (c2 pMod (c2 pDiv (cVar 2) (cK (.int 11))) (cK (.int 4))) (cK (.int 1)))) (sDrop (cPop (cVar 3) (cVar 4))) sNil)))) (sIf (tCmpE (c2 pEq (c2 pMod (cVar 2) (cK (.int 5))) (cK (.int 2)))) (sSetD (cVar 3) (cK (.str [121])) (cK (.int 5))) sNil)
noncomputable def tailR(C:Fn→List PV→Out):Sx:=sSeq (sSet 5 (cN pDictM (aCons (cVar 1) aNil)))
  (sSeq (sSetD (cVar 5) (cK (.str [111,116,104,101,114])) (cK (.int 1)))
  (sSeq (sIf (tAndE (tCmpE (c2 pNe (cVar 0) (cN pLst aNil))) (tCmpE (c2 pEq (c2 pMod (c2 pDiv (cVar 2) (cK (.int 13))) (cK (.int 2))) (cK (.int 1))))) (sDrop (cPop (cVar 5) (c2 pIx (cVar 0) (c2 pMod (c2 pDiv (cVar 2) (cK (.int 26))) (cN pLen (aCons (cVar 0) aNil)))))) sNil)
  (sRet (cAnd (c2 pEq (cCall (C .l_needed) (aCons (cN pTuple (aCons (cVar 0) aNil)) (aCons (cFz (cVar 3)) aNil))) (cN pLst (aCons (cK (.str [118,97,108,117,101,115])) aNil))) (c2 pEq (cCall (C .l_needed) (aCons (cN pTuple (aCons (cVar 0) aNil)) (aCons (cFz (cVar 5)) aNil))) (cN pLst (aCons (cK (.str [118,97,108,117,101,115])) aNil)))))))
theorem refused_parts(C:Fn→List PV→Out):b_l_refused C=sSeq firstR (sSeq (secR C) (tailR C)):=rfl
section
variable (k:Nat) (hk:22≤k) {ns:List (List Nat)} {kvs:List (PK×PV)} (V:Vs ns kvs) (c:Int)
include hk V
theorem tail_eq(bad bd bv:PV)(o4:Option PV)(X X':L3.PO)(db:∀ Y,derefP [X,Y] bad=bd)(fzd:∀ Y,fzR bd [X,Y]= .ok bv [X',Y])(fb:∀ h,frzV h bv=some (bv,h))(nb:F (k+2) .l_needed [.tup (ns.map PV.str),bv]= .ok VALS):
  ∃ h',tailR (F (k+2)) [some (.lst (ns.map PV.str)),some (.dct kvs),some (.int c),some bad,o4,none] [X]= .rt (.bl true) h':=by
 have no:(Sum.inr oth:PK)∉kvs.map (·.1):=by
  rw [V.keys]
  intro h
  obtain ⟨l,hl,e⟩:=List.mem_map.mp h
  have:=V.sub l hl
  rw [Sum.inr.inj e] at this
  exact NM4_no.1 this
 have g1:=nk_more V.nk no (by decide) 1
 have pn:=putP_new (v:=.int 1) no
 have w1:needOk ns (kvs++ [(.inr oth,.int 1)])=false:=need_key (p:=(.inr oth,.int 1)) (by simp) (by
  rw [keyIn_r,decide_eq_false (fun h=>NM4_no.1 (V.sub _ h))];rfl)
 have lk:kvs.length=ns.length:=by have:=congrArg List.length V.keys;simpa using this
 have ln:kvs.length<16777216:=by have:=V.ln;omega
 have nn:=ne_nil V.nk.lt
 have tf:=frz_strs ns
 unfold oth at *
 by_cases q:ns≠ []∧c / 13 % 2=1
 ·obtain ⟨q1,q2⟩:=q
  obtain ⟨nm,hn,en,pos⟩:=at_name (c / 26) q1
  obtain ⟨v,hv⟩:=V.at hn
  have vv:valP (kvs++ [(.inr [111,116,104,101,114],.int 1)]) (.inr nm)=some v:=valP_mem (dat_dct g1.dt).2 (by simp [hv])
  have g2:=nk_drop g1 nm
  have n2:=needed_eq k g2 hk
  rw [need_gone hn] at n2
  have n2:F (k+2) .l_needed [.tup (ns.map PV.str),.dct (dropP (kvs++ [(.inr [111,116,104,101,114],.int 1)]) (.inr nm))]= .ok VALS:=n2
  have e1:ns.isEmpty=false:=by cases ns with
   | nil=>exact absurd rfl q1
   | cons _ _=>rfl
  have q2:decide (c / 13 % 2=1)=true:=decide_eq_true q2
  have pp:=fun a=>pop_d1 a [] vv
  have zz:=fun a=>fz_d1 (l:=dropP (kvs++ [(.inr [111,116,104,101,114],.int 1)]) (.inr nm)) a [] (by have:=dat_pure _ g2.dt;simpa [PV.pure] using this)
  have f2:=frz_d g2.dt
  exact ⟨_,by simp only [EV,tailR,ln,pn,nn,e1,pEq_ii,q2,pos,en,pp,tf,db,fzd,fb,callO_def,nb,vals_vals,zz,f2,n2];rfl⟩
 ·have n2:=needed_eq k g1 hk
  rw [w1] at n2
  have n2:F (k+2) .l_needed [.tup (ns.map PV.str),.dct (kvs++ [(.inr [111,116,104,101,114],.int 1)])]= .ok VALS:=n2
  have zz:=fun a=>fz_d1 (l:=kvs++ [(.inr [111,116,104,101,114],.int 1)]) a [] (by have:=dat_pure _ g1.dt;simpa [PV.pure] using this)
  have f2:=frz_d g1.dt
  cases e1:ns.isEmpty with
  | true=>exact ⟨_,by simp only [EV,tailR,ln,pn,nn,e1,tf,db,fzd,fb,callO_def,nb,vals_vals,zz,f2,n2];rfl⟩
  | false=>
   have q2:decide (c / 13 % 2=1)=false:=decide_eq_false fun z=>q ⟨(fun e=>by rw [e] at e1;exact absurd e1 (by decide)),z⟩
   exact ⟨_,by simp only [EV,tailR,ln,pn,nn,e1,pEq_ii,q2,tf,db,fzd,fb,callO_def,nb,vals_vals,zz,f2,n2];rfl⟩
end
section
variable (k:Nat) (hk:22≤k) {ns:List (List Nat)} {kvs:List (PK×PV)} (V:Vs ns kvs) (c:Int)
include hk V
theorem ref_fin{h':List L3.PO}{v:PV}{ρ:Ev}{h:List L3.PO}(e1:firstR [some (.lst (ns.map PV.str)),some (.dct kvs),some (.int c),none,none,none] []= .nx [some (.lst (ns.map PV.str)),some (.dct kvs),some (.int c),some v,none,none] [.dct kvs])
  (e2:secR (F (k+2)) [some (.lst (ns.map PV.str)),some (.dct kvs),some (.int c),some v,none,none] [.dct kvs]= .nx ρ h) (e3:tailR (F (k+2)) ρ h= .rt (.bl true) h'):F (k+3) .l_refused [.lst (ns.map PV.str),.dct kvs,.int c]= .ok (.bl true):=by
 show runF (b_l_refused (F (k+2))) 3 6 [.lst (ns.map PV.str),.dct kvs,.int c]=_
 rw [refused_parts]
 have env: [PV.lst (ns.map PV.str),.dct kvs,.int c].map some++List.replicate (6 - [PV.lst (ns.map PV.str),.dct kvs,.int c].length) none= [some (.lst (ns.map PV.str)),some (.dct kvs),some (.int c),none,none,none]:=rfl
 unfold runF
 rw [if_pos (show [PV.lst (ns.map PV.str),.dct kvs,.int c].length=3 from rfl),env,ev_sSeq,e1]
 dsimp only
 rw [ev_sSeq,e2]
 dsimp only
 rw [e3]
 simp only [finO,frz_bl]
theorem ref_plain(r:Int)(v:PV)(hr:c % 5=r)(h2:r≠2)(hv:v= .non∨v= .lst []∨v= .tup (ns.map PV.str)∨v= .str [97,98])(e1:firstR [some (.lst (ns.map PV.str)),some (.dct kvs),some (.int c),none,none,none] []= .nx [some (.lst (ns.map PV.str)),some (.dct kvs),some (.int c),some v,none,none] [.dct kvs]):F (k+3) .l_refused [.lst (ns.map PV.str),.dct kvs,.int c]= .ok (.bl true):=by
 have hp:v.pure=true:=by
  rcases hv with rfl | rfl | rfl | rfl
  ·rfl
  ·rfl
  ·rw [PV.pure,pures_map,List.all_map,List.all_eq_true];intro x _;rfl
  ·rfl
 have q:decide (r=2)=false:=decide_eq_false h2
 obtain ⟨h',e3⟩:=tail_eq k hk V c v v v none (.dct kvs) (.dct kvs) (fun Y=>dr_pure _ hp) (fun Y=>fz_pure _ hp) (fun h=>frz_pure h hp) (needed_no k ns v hv)
 refine ref_fin k hk V c e1 ?_ e3
 simp only [EV,secR,hr,pEq_ii,q]
theorem refused_eq:F (k+3) .l_refused [.lst (ns.map PV.str),.dct kvs,.int c]= .ok (.bl true):=by
 have g1:0≤c % 5:=Int.emod_nonneg _ (by decide)
 have g2:c % 5<5:=Int.emod_lt_of_pos _ (by decide)
 have fd:=frz_d V.dt
 have a0:∀ {a b c d e:PV},atI [a,b,c,d,e] 0=some a:=fun {a b c d e}=>rfl
 have a1:∀ {a b c d e:PV},atI [a,b,c,d,e] 1=some b:=fun {a b c d e}=>rfl
 have a2:∀ {a b c d e:PV},atI [a,b,c,d,e] 2=some c:=fun {a b c d e}=>rfl
 have a3:∀ {a b c d e:PV},atI [a,b,c,d,e] 3=some d:=fun {a b c d e}=>rfl
 have a4:∀ {a b c d e:PV},atI [a,b,c,d,e] 4=some e:=fun {a b c d e}=>rfl
 have nn:=ne_nil V.nk.lt
 have lk:kvs.length=ns.length:=by have:=congrArg List.length V.keys;simpa using this
 have ln:kvs.length<16777216:=by have:=V.ln;omega
 have:c % 5=0∨c % 5=1∨c % 5=2∨c % 5=3∨c % 5=4:=by omega
 rcases this with r | r | r | r | r
 ·exact ref_plain k hk V c 0 .non r (by decide) (.inl rfl) (by simp only [EV,firstR,r,a0])
 ·exact ref_plain k hk V c 1 (.lst []) r (by decide) (.inr (.inl rfl)) (by simp only [EV,firstR,r,a1])
 ·have e1:firstR [some (.lst (ns.map PV.str)),some (.dct kvs),some (.int c),none,none,none] []= .nx [some (.lst (ns.map PV.str)),some (.dct kvs),some (.int c),some (.ref 0),none,none] [.dct kvs]:=by simp only [EV,firstR,r,a2]
  have t2:decide ((2:Int)=2)=true:=rfl
  by_cases hn:ns= []
  ·subst hn
   have k0:kvs= []:=by
    have:=lk
    cases kvs with
    | nil=>rfl
    | cons _ _=>simp at this
   subst k0
   have gy:NK [] [(.inr [121],.int 5)]:=nk_more (kvs:= []) V.nk (by simp) (by decide) 5
   have ny:=needed_eq k gy hk
   have ny:F (k+2) .l_needed [.tup (([]:List (List Nat)).map PV.str),.dct [(.inr [121],.int 5)]]= .ok VALS:=ny
   have py:putP [] (.inr [121]) (.int 5)= [(.inr [121],.int 5)]:=rfl
   obtain ⟨h',e3⟩:=tail_eq k hk V c (.ref 0) (.ref 0) (.dct [(.inr [121],.int 5)]) none (.dct [(.inr [121],.int 5)]) (.froz (.dct [(.inr [121],.int 5)])) (fun Y=>rfl) (fun Y=>fz_d0 [Y] rfl) (frz_d gy.dt) ny
   refine ref_fin k hk V c e1 (ρ:= [some (.lst (([]:List (List Nat)).map PV.str)),some (.dct []),some (.int c),some (.ref 0),none,none]) (h:= [.dct [(.inr [121],.int 5)]]) ?_ e3
   have n0:=nn [.dct []]
   have z0:(0:Nat)<16777216:=by decide
   have n1:∀ h,pNe (.lst []) (.lst []) h= .ok (.bl false) h:=fun h=>nn h
   simp only [EV,secR,r,pEq_ii,t2,n1,py,z0]
  ·obtain ⟨nm,hm,en,pos⟩:=at_name (c / 5) hn
   obtain ⟨v,hv⟩:=V.at hm
   obtain ⟨y1,nd⟩:=dat_dct V.dt
   have vv:=valP_mem nd hv
   have hdv:=(y1 _ hv).2
   have fv:=frz_d hdv
   have dv:=dr_d hdv
   obtain ⟨w,ew,w1,w2⟩:=spoilt_eq 6 (k+2) v (c / 20) 6 (by omega) (by omega) (V.vs _ hv) hdv
   have fw:=frz_d w2
   have dw:=dr_d w2
   have mk:(Sum.inr nm:PK)∈kvs.map (·.1):=List.mem_map.mpr ⟨_,hv,rfl⟩
   have g2:=nk_put V.nk mk w2
   have vw:=valP_mem (dat_dct g2.dt).2 (putP_mem (v:=w) mk)
   have iv:=is_value (k+2) w (by omega) w2
   rw [w1] at iv
   have li:=l_is (k+1) false false
   have ff:(false==false)=true:=rfl
   have e0:ns.isEmpty=false:=by cases ns with
    | nil=>exact absurd rfl hn
    | cons _ _=>rfl
   cases q:decide (c / 11 % 4=1) with
   | true=>
    have g3:=nk_drop g2 nm
    have n3:=needed_eq k g3 hk
    rw [need_gone hm] at n3
    have n3:F (k+2) .l_needed [.tup (ns.map PV.str),.dct (dropP (putP kvs (.inr nm) w) (.inr nm))]= .ok VALS:=n3
    have pp:=pop_d0 [] vw
    obtain ⟨h',e3⟩:=tail_eq k hk V c (.ref 0) (.ref 0) _ (some (.str nm)) (.dct (dropP (putP kvs (.inr nm) w) (.inr nm))) _ (fun Y=>rfl) (fun Y=>fz_d0 [Y] (by have:=dat_pure _ g3.dt;simpa [PV.pure] using this)) (frz_d g3.dt) n3
    refine ref_fin k hk V c e1 (ρ:= [some (.lst (ns.map PV.str)),some (.dct kvs),some (.int c),some (.ref 0),some (.str nm),none]) (h:= [.dct (dropP (putP kvs (.inr nm) w) (.inr nm))]) ?_ e3
    simp only [EV,secR,r,pEq_ii,t2,nn,e0,pos,en,vv,dv,fv,callO_def,ew,ln,vw,dw,fw,iv,li,ff,q,pp]
   | false=>
    have n3:=needed_eq k g2 hk
    rw [need_key (putP_mem (v:=w) mk) (by rw [w1,Bool.and_false])] at n3
    have n3:F (k+2) .l_needed [.tup (ns.map PV.str),.dct (putP kvs (.inr nm) w)]= .ok VALS:=n3
    obtain ⟨h',e3⟩:=tail_eq k hk V c (.ref 0) (.ref 0) _ (some (.str nm)) (.dct (putP kvs (.inr nm) w)) _ (fun Y=>rfl) (fun Y=>fz_d0 [Y] (by have:=dat_pure _ g2.dt;simpa [PV.pure] using this)) (frz_d g2.dt) n3
    refine ref_fin k hk V c e1 (ρ:= [some (.lst (ns.map PV.str)),some (.dct kvs),some (.int c),some (.ref 0),some (.str nm),none]) (h:= [.dct (putP kvs (.inr nm) w)]) ?_ e3
    simp only [EV,secR,r,pEq_ii,t2,nn,e0,pos,en,vv,dv,fv,callO_def,ew,ln,vw,dw,fw,iv,li,ff,q]
 ·exact ref_plain k hk V c 3 (.tup (ns.map PV.str)) r (by decide) (.inr (.inr (.inl rfl))) (by simp only [EV,firstR,r,a3])
 ·exact ref_plain k hk V c 4 (.str [97,98]) r (by decide) (.inr (.inr (.inr rfl))) (by simp only [EV,firstR,r,a4])
end
def letC(c:Int)(j:Nat):Nat:=q_c3fcd3.getD (mix (c / 8) j / 3 % 26).toNat 0
theorem let_elt(k:Nat)(c:Int)(j:Nat)(hj:j≤1000)(h:List L3.PO):e_l_name_by_1 (F (k+1)) [some (.int (j:Int)),some (.str q_c3fcd3),some (.int c)] h= .ok (.str [letC c j]) h∧letC c j∈q_c3fcd3:=by
 have e:=mixed k (c / 8) j (by omega)
 have h1:0≤mix (c / 8) j / 3 % 26:=Int.emod_nonneg _ (by decide)
 have h2:mix (c / 8) j / 3 % 26<26:=Int.emod_lt_of_pos _ (by decide)
 have h3:q_c3fcd3.length=26:=by decide
 have e2:atI q_c3fcd3 (mix (c / 8) j / 3 % 26)=some (letC c j):=atI_getD 0 h1 (by rw [h3];exact h2)
 refine ⟨?_,getD_mem (by omega)⟩
 simp only [EV,e_l_name_by_1,callO_def,e,e2,h3]
theorem flat_one{α:Type}(f:α→Nat):∀ l:List α,(l.map fun x=> [f x]).flatten=l.map f
 | []=>rfl
 | x::r=>by simp [flat_one f r]
theorem name_by(k:Nat)(c:Int):∃ w,F (k+2) .l_name_by [.int c]= .ok (.str w)∧nameOk w=true:=by
 obtain ⟨n,en,hn⟩:=emod_nat c (n:=8) (by decide)
 have en:c % 8=(n:Int):=en
 have s1:1+(n:Int)=((n+1:Nat):Int):=by omega
 have mem:∀ x∈(List.range (n+1)).map (letC c),x∈q_c3fcd3:=fun x hx=>by
  obtain ⟨j,hj,rfl⟩:=List.mem_map.mp hx
  exact (let_elt 0 c j (by have:=List.mem_range.mp hj;omega) []).2
 have lt:Lt ((List.range (n+1)).map (letC c)):=fun x hx=>AZ_lt x (mem x hx)
 have ln:((List.range (n+1)).map (letC c)).length=n+1:=by simp
 have cm:∀ h,compL tYesE (e_l_name_by_1 (F (k+1))) (capP [1,0] [some (.int c),some (.str q_c3fcd3),some (.lst [.str [97,115],.str [98,101,116,119,101,101,110],.str [98,111,100,121],.str [101,108,115,101],.str [101,110,100],.str [102,111,114],.str [105,102],.str [105,110],.str [112,105,101,99,101],.str [117,115,101],.str [119,105,116,104]]),some (.int ((n+1:Nat):Int)),none]) ((List.range (n+1)).map fun i=>PV.int (0+((i:Nat):Int))) h= .ok (((List.range (n+1)).map (fun j=> [letC c j])).map PV.str) h:=by
  intro h
  rw [compL_map (f:=fun p=>match p with | .int j=>.str [letC c j.toNat] | _=>.non)]
  ·simp [Function.comp_def]
  ·intro p hp
   obtain ⟨j,hj,rfl⟩:=List.mem_map.mp hp
   have:=(let_elt k c j (by have:=List.mem_range.mp hj;omega) h).1
   simpa [capP] using this
 have jn:∀ h,pJoin (.str []) [.lst (((List.range (n+1)).map (fun j=> [letC c j])).map PV.str)] h= .ok (.str ((List.range (n+1)).map (letC c))) h:=fun h=>by
  rw [pJoin_l (by rw [sum_one _ (fun _=>rfl),List.length_range];omega),flat_one]
 have inw:∀ h,pIn (.str ((List.range (n+1)).map (letC c))) (.lst [.str [97,115],.str [98,101,116,119,101,101,110],.str [98,111,100,121],.str [101,108,115,101],.str [101,110,100],.str [102,111,114],.str [105,102],.str [105,110],.str [112,105,101,99,101],.str [117,115,101],.str [119,105,116,104]]) h= .ok (.bl (decide ((List.range (n+1)).map (letC c)∈CW))) h:=fun h=>in_l (ls:=CW) lt CW_lt h
 have b1:bel 4611686018427387904 ((n+1:Nat):Int)=true:=bel_iff.mpr (by omega)
 have l1:((List.range (n+1)).map fun i=>PV.int (0+((i:Nat):Int))).length<16777216:=by simp;omega
 cases q:decide ((List.range (n+1)).map (letC c)∈CW) with
 | true=>
  refine ⟨[120],?_,by decide+kernel⟩
  show runF (b_l_name_by (F (k+1))) 1 5 [.int c]=_
  simp only [EV,runF,b_l_name_by,en,s1,b1,Int.toNat_natCast,l1,cm,jn,inw,q,finO]
 | false=>
  refine ⟨(List.range (n+1)).map (letC c),?_,?_⟩
  ·show runF (b_l_name_by (F (k+1))) 1 5 [.int c]=_
   simp only [EV,runF,b_l_name_by,en,s1,b1,Int.toNat_natCast,l1,cm,jn,inw,q,finO]
  ·unfold nameOk
   rw [q,ln,decide_eq_true (show 1≤n+1∧n+1≤8 by omega),Bool.true_and,Bool.not_false,Bool.and_true,List.all_eq_true]
   exact fun x hx=>List.contains_iff_mem.mpr (mem x hx)
structure NoN(v:PV):Prop where
 dt:dat v=true
 no:∀ k,F (k+2) .is_name [v]= .ok (.bl false)
theorem non_str{l:List Nat}(hl:l.length≤16777216)(ht:Lt l)(h:nameOk l=false):NoN (.str l):=⟨by rw [dat];exact decide_eq_true hl,fun k=>by rw [is_name k l hl ht,h]⟩
theorem non_oth{v:PV}(hd:dat v=true)(hi:∀ h,pIsinst [v,.ty "str"] h= .ok (.bl false) h):NoN v:=⟨hd,fun k=>no_name (k+1) hi (dr_d hd)⟩
theorem nameOk_len{w:List Nat}(h:nameOk w=true):1≤w.length∧w.length≤8∧(∀ c∈w,c∈q_c3fcd3)∧Lt w:=by
 simp only [nameOk,Bool.and_eq_true,decide_eq_true_eq,List.all_eq_true] at h
 have az:∀ c∈w,c∈q_c3fcd3:=fun c hc=>List.contains_iff_mem.mp (h.1.2 c hc)
 exact ⟨h.1.1.1,h.1.1.2,az,fun c hc=>AZ_lt c (az c hc)⟩
def LO(w:List Nat)(s:Nat)(a:Int):List PV:=CW.map PV.str++ [.str [],.non,.int 5,.bl true,.lst [.str [97]],.tup [.str [97]],.dct [],.str [97,98,99,100,101,102,103,104,105],.str (cut w none (some a)++ [s]++cut w (some (a+1)) none)]
theorem cut_len{α:Type}(l:List α)(lo hi:Option Int):(cut l lo hi).length≤l.length:=by
 unfold cut
 rw [List.length_take,List.length_drop]
 omega
theorem cut_mem{α:Type}{l:List α}{lo hi:Option Int}{c:α}(h:c∈cut l lo hi):c∈l:=by
 unfold cut at h
 exact List.mem_of_mem_drop (List.mem_of_mem_take h)
theorem LO_no{w:List Nat}(hw:nameOk w=true){s:Nat}(hs:s∉q_c3fcd3)(hs2:s<1114112)(a:Int):∀ v∈LO w s a,NoN v:=by
 obtain ⟨w1,w2,w3,w4⟩:=nameOk_len hw
 intro v hv
 rcases List.mem_append.mp hv with hv | hv
 ·obtain ⟨l,hl,rfl⟩:=List.mem_map.mp hv
  have k:=CW_g l hl
  refine non_str ?_ (keyG_lt k) (CW_no l hl)
  simp only [keyG,Bool.and_eq_true,decide_eq_true_eq] at k
  exact k.1
 ·simp only [List.mem_cons,List.not_mem_nil,or_false] at hv
  rcases hv with rfl | rfl | rfl | rfl | rfl | rfl | rfl | rfl | rfl
  ·exact non_str (by decide) (by simp [Lt]) (by decide+kernel)
  ·exact non_oth rfl fun _=>rfl
  ·exact non_oth rfl fun _=>rfl
  ·exact non_oth rfl fun _=>rfl
  ·exact non_oth rfl fun _=>rfl
  ·exact non_oth rfl fun _=>rfl
  ·exact non_oth (by decide) fun _=>rfl
  ·exact non_str (by decide) (by decide) (by decide+kernel)
  ·have c1:=cut_len w none (some a)
   have c2:=cut_len w (some (a+1)) none
   refine non_str (by simp only [List.length_append,List.length_cons,List.length_nil];omega) (fun c hc=>?_) ?_
   ·simp only [List.mem_append,List.mem_cons,List.not_mem_nil,or_false] at hc
    rcases hc with (hc | rfl) | hc
    ·exact w4 c (cut_mem hc)
    ·exact hs2
    ·exact w4 c (cut_mem hc)
   ·have:(cut w none (some a)++ [s]++cut w (some (a+1)) none).all q_c3fcd3.contains=false:=List.all_eq_false.mpr ⟨s,by simp,fun z=>hs (List.contains_iff_mem.mp z)⟩
    unfold nameOk
    rw [this,Bool.and_false,Bool.false_and]
theorem odd_name(k:Nat)(c:Int):∃ v,F (k+3) .l_odd_name [.int c]= .ok v∧NoN v:=by
 obtain ⟨w,ew,hw⟩:=name_by k (c / 32)
 obtain ⟨w1,w2,w3,w4⟩:=nameOk_len hw
 have g1:0≤c / 32 % 8:=Int.emod_nonneg _ (by decide)
 have g2:c / 32 % 8<8:=Int.emod_lt_of_pos _ (by decide)
 have g3:0≤c % 20:=Int.emod_nonneg _ (by decide)
 have g4:c % 20<20:=Int.emod_lt_of_pos _ (by decide)
 have es:=atI_getD (xs:= [65,48,32,95,46,123,10,45]) 0 g1 (by simpa using g2)
 have hs: [65,48,32,95,46,123,10,45].getD (c / 32 % 8).toNat 0∈ [65,48,32,95,46,123,10,45]:=getD_mem (by simp;omega)
 generalize [65,48,32,95,46,123,10,45].getD (c / 32 % 8).toNat 0=s at *
 have ns:∀ x∈ [65,48,32,95,46,123,10,45],x∉q_c3fcd3∧x<1114112:=by decide
 have e2:=atI_getD (xs:=LO w s (c / 7 % (w.length:Int))) PV.non g3 (by simpa [LO,CW] using g4)
 have nv:=LO_no hw (ns s hs).1 (ns s hs).2 _ _ (dat_in e2)
 refine ⟨_,?_,nv⟩
 generalize (LO w s (c / 7 % (w.length:Int))).getD (c % 20).toNat PV.non=v at *
 have fv:=frz_d nv.dt
 have dv:=dr_d nv.dt
 show runF (b_l_odd_name (F (k+2))) 1 6 [.int c]=_
 have pos:decide (0<(w.length:Int))=true:=decide_eq_true (by omega)
 have wl:w.length≤16777216:=by omega
 have c1:=cut_len w none (some (c / 7 % (w.length:Int)))
 have c2:=cut_len w (some (c / 7 % (w.length:Int)+1)) none
 have z1:(cut w none (some (c / 7 % (w.length:Int)))).length+1≤16777216:=by omega
 have z2:(cut w none (some (c / 7 % (w.length:Int)))).length+1+(cut w (some (c / 7 % (w.length:Int)+1)) none).length≤16777216:=by omega
 simp only [LO,CW,List.map_cons,List.map_nil,List.cons_append,List.nil_append] at e2
 simp only [EV,runF,b_l_odd_name,callO_def,ew,pos,wl,es,z1,z2,e2,fv,dv,List.length_append,finO]
theorem is_path(k:Nat)(xs:List PV)(g:PV→Bool)(hl:xs.length<16777216)(hx:∀ x∈xs,(∀ h,frzV h x=some (x,h))∧(∀ h,derefP h x=x)∧F k .is_name [x]= .ok (.bl (g x))):F (k+1) .is_path [.tup xs]= .ok (.bl (decide (1≤xs.length∧xs.length≤4)&&xs.all g)):=by
 show runF (b_is_path (F k)) 1 1 [.tup xs]=_
 have cm:∀ cp h,compL tYesE (e_is_path_1 (F k)) cp xs h= .ok ((xs.map g).map PV.bl) h:=fun cp h=>by
  rw [compL_map (f:=fun x=>.bl (g x))]
  ·rw [List.map_map];rfl
  ·intro x hxx
   obtain ⟨f,d,e⟩:=hx x hxx
   simp only [EV,e_is_path_1,callO_def,f,d,e]
 have al:∀ h,pAll [.lst ((xs.map g).map PV.bl)] h= .ok (.bl (xs.all g)) h:=fun h=>by
  rw [all_bl,List.all_map];rfl
 by_cases h1:1≤xs.length
 ·have d1:decide ((1:Int)≤(xs.length:Int))=true:=decide_eq_true (by omega)
  by_cases h2:xs.length≤4
  ·have d2:decide ((xs.length:Int)≤4)=true:=decide_eq_true (by omega)
   rw [decide_eq_true (p:=1≤xs.length∧xs.length≤4) ⟨h1,h2⟩]
   simp only [EV,runF,b_is_path,hl,d1,d2,cm,al,finO]
  ·have d2:decide ((xs.length:Int)≤4)=false:=decide_eq_false (by omega)
   rw [decide_eq_false (p:=1≤xs.length∧xs.length≤4) (fun z=>h2 z.2)]
   simp only [EV,runF,b_is_path,d1,d2,finO]
 ·have d1:decide ((1:Int)≤(xs.length:Int))=false:=decide_eq_false (by omega)
  rw [decide_eq_false (p:=1≤xs.length∧xs.length≤4) (fun z=>h1 z.1)]
  simp only [EV,runF,b_is_path,d1,finO]
theorem no_path(k:Nat){v:PV}(hi:∀ h,pIsinst [v,.ty "tuple"] h= .ok (.bl false) h)(d:∀ h,derefP h v=v):F (k+1) .is_path [v]= .ok (.bl false):=by
 show runF (b_is_path (F k)) 1 1 [v]=_
 simp only [EV,runF,b_is_path,hi,d,finO]
theorem no_txt(k:Nat){v:PV}(n:Int)(hi:∀ h,pIsinst [v,.ty "str"] h= .ok (.bl false) h)(d:∀ h,derefP h v=v):F (k+1) .is_text [v,.int n]= .ok (.bl false):=by
 show runF (b_is_text (F k)) 2 2 [v,.int n]=_
 simp only [EV,runF,b_is_text,hi,d,finO]
theorem addE_tt{a b:List PV}(h:List L3.PO)(hl:a.length+b.length≤16777216):pAddE (.tup a) (.tup b) h= .ok (.tup (a++b)) h:=by
 cases a with
 | nil=>rfl
 | cons x r=>
  show pAdd (.tup (x::r)) (.tup b) h=_
  rw [add_tt,if_pos ⟨rfl,by rw [szl];exact hl⟩]
theorem slt_to{xs:List PV}{i:Nat}(h:List L3.PO)(hi:i<xs.length):pSl (.tup xs) none (some (i:Int)) h= .ok (.tup (xs.take i)) h:=by
 unfold pSl
 dsimp only
 rw [if_neg (by rw [HT.sIx_nat];omega),cut_to]
theorem slt_from{xs:List PV}{i:Nat}(h:List L3.PO)(hi:i<xs.length):pSl (.tup xs) (some ((i+1:Nat):Int)) none h= .ok (.tup (xs.drop (i+1))) h:=by
 unfold pSl
 dsimp only
 rw [if_neg (by rw [HT.sIx_nat];omega),cut_from]
theorem strsOf_strs:∀ ls:List (List Nat),strsOf (ls.map PV.str)=some ls
 | []=>rfl
 | l::r=>by rw [List.map_cons,strsOf,strsOf_strs r];rfl
theorem sum_le8:∀ {ls:List (List Nat)},(∀ l∈ls,l.length≤8)→(ls.map (·.length)).sum≤8 * ls.length
 | [],_=>by simp
 | l::r,h=>by
  have:=sum_le8 fun x hx=>h x (List.mem_cons_of_mem _ hx)
  have:=h l (List.mem_cons_self ..)
  rw [List.map_cons,List.sum_cons,List.length_cons];omega
theorem joinT{ls:List (List Nat)}(h:List L3.PO)(h8:∀ l∈ls,l.length≤8)(h4:ls.length≤4):pJoinT (.str [46]) [.tup (ls.map PV.str)] h= .ok (.str (joinL [46] ls)) h:=by
 show (match strsOf (ls.map PV.str) with
  | some ls=>if (ls.map (fun l:List Nat=>l.length)).sum+ls.length * [46].length≤16777216 then Res.ok (PV.str (joinL [46] ls)) h else .bad
  | none=>.bad)=_
 rw [strsOf_strs]
 have:=sum_le8 h8
 exact if_pos (by rw [List.length_singleton];omega)
noncomputable def nmB(k:Nat)(x:Int):List Nat:=match F (k+2) .l_name_by [.int x] with
 | .ok (.str w)=>w
 | _=> []
theorem nmB_eq(k:Nat)(x:Int):F (k+2) .l_name_by [.int x]= .ok (.str (nmB k x))∧nameOk (nmB k x)=true:=by
 obtain ⟨w,e,h⟩:=name_by k x
 have:nmB k x=w:=by unfold nmB;rw [e]
 rw [this];exact ⟨e,h⟩
def sgC(m:Int)(j:Nat):Nat:=q_e84fa8.getD (mix m j % 95).toNat 0
theorem sg_elt(k:Nat)(m:Int)(j:Nat)(hj:j≤1000)(h:List L3.PO):e_l_names_right_2 (F (k+1)) [some (.int (j:Int)),some (.int m)] h= .ok (.str [sgC m j]) h∧sgC m j∈q_e84fa8:=by
 have e:=mixed k m j (by omega)
 have s:=l_signs_eq k
 have h1:0≤mix m j % 95:=Int.emod_nonneg _ (by decide)
 have h2:mix m j % 95<95:=Int.emod_lt_of_pos _ (by decide)
 have h3:q_e84fa8.length=95:=by decide
 have e2:atI q_e84fa8 (mix m j % 95)=some (sgC m j):=atI_getD 0 h1 (by rw [h3];exact h2)
 refine ⟨?_,getD_mem (by omega)⟩
 simp only [EV,e_l_names_right_2,callO_def,s,e,e2,h3]
structure NoP(v:PV):Prop where
 fz:∀ h,frzV h v=some (v,h)
 dr:∀ h,derefP h v=v
 no:∀ k,F (k+3) .is_path [v]= .ok (.bl false)
def L6(ws:List (List Nat))(odd:PV)(i:Nat):List PV:= [.tup ((ws.map PV.str).take i++ [odd]++(ws.map PV.str).drop (i+1)),.tup [],.tup (ws.map PV.str++ [.str [97],.str [98],.str [99],.str [100]]),.lst (ws.map PV.str),.str (joinL [46] ws),.non]
theorem L6_no{ws:List (List Nat)}(hw:∀ w∈ws,nameOk w=true)(h1:1≤ws.length)(h4:ws.length≤4){odd:PV}(ho:NoN odd){i:Nat}(hi:i<ws.length):∀ v∈L6 ws odd i,NoP v:=by
 have ds:∀ x∈ws.map PV.str,dat x=true:=fun x hx=>by
  obtain ⟨w,h,rfl⟩:=List.mem_map.mp hx
  rw [dat];exact decide_eq_true (by have:=(nameOk_len (hw w h)).2.1;omega)
 have tupP:∀ {xs:List PV} (g:PV→Bool),(∀ x∈xs,dat x=true∧∀ k,F (k+2) .is_name [x]= .ok (.bl (g x)))→xs.length≤100→(decide (1≤xs.length∧xs.length≤4)&&xs.all g)=false→NoP (.tup xs):=by
  intro xs g h hl hf
  have pp:pures xs=true:=by rw [pures_map,List.all_eq_true];exact fun x hx=>dat_pure x (h x hx).1
  refine ⟨fun hh=>frz_tup hh pp,fun _=>rfl,fun k=>?_⟩
  rw [is_path (k+2) xs g (by omega) fun x hx=>⟨frz_d (h x hx).1,dr_d (h x hx).1,(h x hx).2 k⟩,hf]
 have gn:∀ x∈ws.map PV.str,∀ k,F (k+2) .is_name [x]= .ok (.bl true):=fun x hx k=>by
  obtain ⟨w,h,rfl⟩:=List.mem_map.mp hx
  obtain ⟨_,l8,_,lt⟩:=nameOk_len (hw w h)
  rw [K4.is_name k w (by omega) lt,hw w h]
 have lm:(ws.map PV.str).length=ws.length:=List.length_map ..
 intro v hv
 simp only [L6,List.mem_cons,List.not_mem_nil,or_false] at hv
 rcases hv with rfl | rfl | rfl | rfl | rfl | rfl
 ·classical
  refine tupP (fun x=>decide (∃ k,F (k+2) .is_name [x]= .ok (.bl true))) (fun x hx=>?_) ?_ ?_
  ·rcases List.mem_append.mp hx with hx | hx
   ·rcases List.mem_append.mp hx with hx | hx
    ·have hm:=List.mem_of_mem_take hx
     exact ⟨ds x hm,fun k=>by rw [gn x hm k,decide_eq_true (⟨0,gn x hm 0⟩:∃ k,F (k+2) .is_name [x]= .ok (.bl true))]⟩
    ·rw [List.mem_singleton.mp hx]
     refine ⟨ho.dt,fun k=>?_⟩
     rw [ho.no k,decide_eq_false]
     rintro ⟨j,e⟩
     rw [ho.no j] at e
     cases e
   ·have hm:=List.mem_of_mem_drop hx
    exact ⟨ds x hm,fun k=>by rw [gn x hm k,decide_eq_true (⟨0,gn x hm 0⟩:∃ k,F (k+2) .is_name [x]= .ok (.bl true))]⟩
  ·simp only [List.length_append,List.length_take,List.length_drop,List.length_singleton,lm];omega
  ·rw [all_no (x:=odd) (by simp),Bool.and_false]
   refine decide_eq_false ?_
   rintro ⟨j,e⟩
   rw [ho.no j] at e
   cases e
 ·exact tupP (fun _=>true) (by simp) (by decide) (by decide)
 ·have abcd:∀ x∈ [PV.str [97],.str [98],.str [99],.str [100]],dat x=true∧∀ k,F (k+2) .is_name [x]= .ok (.bl true):=by
   have go:∀ l,nameOk l=true→dat (.str l)=true∧∀ k,F (k+2) .is_name [PV.str l]= .ok (.bl true):=fun l hl=>by
    obtain ⟨_,l8,_,lt⟩:=nameOk_len hl
    exact ⟨by rw [dat];exact decide_eq_true (by omega),fun k=>by rw [K4.is_name k l (by omega) lt,hl]⟩
   intro x hx
   simp only [List.mem_cons,List.not_mem_nil,or_false] at hx
   rcases hx with rfl | rfl | rfl | rfl
   ·exact go _ (by decide+kernel)
   ·exact go _ (by decide+kernel)
   ·exact go _ (by decide+kernel)
   ·exact go _ (by decide+kernel)
  refine tupP (fun _=>true) (fun x hx=>?_) (by rw [List.length_append,lm];simp;omega) ?_
  ·rcases List.mem_append.mp hx with hx | hx
   ·exact ⟨ds x hx,gn x hx⟩
   ·exact abcd x hx
  ·rw [decide_eq_false (fun z=>by
    have z2:=z.2
    rw [List.length_append,lm] at z2
    have z3:ws.length+4≤4:=z2
    omega),Bool.false_and]
 ·refine ⟨fun h=>frz_lst h ?_,fun _=>rfl,fun k=>no_path (k+2) (fun _=>rfl) fun _=>rfl⟩
  rw [pures_map,List.all_eq_true];exact fun x hx=>dat_pure x (ds x hx)
 ·exact ⟨fun h=>frz_str h _,fun _=>rfl,fun k=>no_path (k+2) (fun _=>rfl) fun _=>rfl⟩
 ·exact ⟨fun h=>frz_non h,fun _=>rfl,fun k=>no_path (k+2) (fun _=>rfl) fun _=>rfl⟩
structure NoT(v:PV):Prop where
 fz:∀ h,frzV h v=some (v,h)
 dr:∀ h,derefP h v=v
 no:∀ k,F (k+2) .is_text [v,.int 400]= .ok (.bl false)
def L5(t:List Nat)(p:Int):List PV:= [.str (cut t none (some p)++ [9]++cut t (some p) none),.non,.int 5,.lst [.str t],.bl true]
theorem L5_no{t:List Nat}(ht:t.length≤100)(p:Int):∀ v∈L5 t p,NoT v:=by
 intro v hv
 simp only [L5,List.mem_cons,List.not_mem_nil,or_false] at hv
 rcases hv with rfl | rfl | rfl | rfl | rfl
 ·refine ⟨fun h=>frz_str h _,fun _=>rfl,fun k=>?_⟩
  have c1:=cut_len t none (some p)
  have c2:=cut_len t (some p) none
  have:(cut t none (some p)++ [9]++cut t (some p) none).all q_e84fa8.contains=false:=List.all_eq_false.mpr ⟨9,by simp,by decide+kernel⟩
  rw [is_text_s k _ 400 (by simp only [List.length_append,List.length_cons,List.length_nil];omega),this,Bool.and_false]
 ·exact ⟨fun h=>frz_non h,fun _=>rfl,fun k=>no_txt (k+1) 400 (fun _=>rfl) fun _=>rfl⟩
 ·exact ⟨fun h=>frz_int h _,fun _=>rfl,fun k=>no_txt (k+1) 400 (fun _=>rfl) fun _=>rfl⟩
 ·exact ⟨fun h=>frz_lst h rfl,fun _=>rfl,fun k=>no_txt (k+1) 400 (fun _=>rfl) fun _=>rfl⟩
 ·exact ⟨fun h=>frz_bl h _,fun _=>rfl,fun k=>no_txt (k+1) 400 (fun _=>rfl) fun _=>rfl⟩
theorem frzg(ns:List Int):∀ h,frzV h (.giv (ns.map PV.int))=some (.giv (ns.map PV.int),h):=fun h=>frz_giv h (by
 rw [pures_map,List.all_map,List.all_eq_true];intro x _;rfl)
theorem names_right(k:Nat)(ns:List Int):F (k+4) .l_names_right [.giv (ns.map PV.int)]= .ok (.bl true):=by
 have ca0:F (k+3) .l_cell_at [.giv (ns.map PV.int),.int 0]= .ok (.int (cellA ns 0)):=cell_at (k+2) ns 0
 have ca1:F (k+3) .l_cell_at [.giv (ns.map PV.int),.int 1]= .ok (.int (cellA ns 1)):=cell_at (k+2) ns 1
 have ca2:F (k+3) .l_cell_at [.giv (ns.map PV.int),.int 2]= .ok (.int (cellA ns 2)):=cell_at (k+2) ns 2
 have mx0:F (k+3) .l_mixed [.int (cellA ns 0),.int 1]= .ok (.int (mix (cellA ns 0) 1)):=mixed (k+2) (cellA ns 0) 1 (by decide)
 have mx1:F (k+3) .l_mixed [.int (cellA ns 1),.int 2]= .ok (.int (mix (cellA ns 1) 2)):=mixed (k+2) (cellA ns 1) 2 (by decide)
 have mx2:F (k+3) .l_mixed [.int (cellA ns 2),.int 3]= .ok (.int (mix (cellA ns 2) 3)):=mixed (k+2) (cellA ns 2) 3 (by decide)
 obtain ⟨w,ew,hw⟩:=name_by (k+1) (mix (cellA ns 0) 1)
 obtain ⟨_,w8,_,wlt⟩:=nameOk_len hw
 obtain ⟨odd,eo,ho⟩:=odd_name k (mix (cellA ns 1) 2)
 have mr:=mix_range (cellA ns 2) 3
 generalize mix (cellA ns 2) 3=m at *
 obtain ⟨n,en,hn⟩:=emod_nat m (n:=4) (by decide)
 have en:m % 4=(n:Int):=en
 have s1:1+(n:Int)=((n+1:Nat):Int):=by omega
 have cm1:∀ h,compL tYesE (e_l_names_right_1 (F (k+3))) [some (.int m)] ((List.range (n+1)).map fun i=>PV.int (0+((i:Nat):Int))) h= .ok (((List.range (n+1)).map fun j:Nat=>nmB (k+1) (m / (1+(j:Int)))).map PV.str) h:=by
  intro h
  rw [compL_map (f:=fun p=>match p with | .int j=>.str (nmB (k+1) (m / (1+j))) | _=>.non)]
  ·simp [Function.comp_def]
  ·intro p hp
   obtain ⟨j,hj,rfl⟩:=List.mem_map.mp hp
   have e:=(nmB_eq (k+1) (m / (1+(j:Int)))).1
   have pos:decide (0<1+(j:Int)∧1+(j:Int)<1073741824)=true:=decide_eq_true (by have:=List.mem_range.mp hj;omega)
   rw [show (0:Int)+((j:Nat):Int)=(j:Int) by omega]
   simp only [EV,e_l_names_right_1,pos,callO_def,e]
 have ok:∀ x∈(List.range (n+1)).map fun j:Nat=>nmB (k+1) (m / (1+(j:Int))),nameOk x=true:=fun x hx=>by
  obtain ⟨j,_,rfl⟩:=List.mem_map.mp hx
  exact (nmB_eq (k+1) _).2
 have wl:((List.range (n+1)).map fun j:Nat=>nmB (k+1) (m / (1+(j:Int)))).length=n+1:=by simp
 generalize ((List.range (n+1)).map fun j:Nat=>nmB (k+1) (m / (1+(j:Int))))=ws at *
 have lm:(ws.map PV.str).length=n+1:=by rw [List.length_map];exact wl
 obtain ⟨i,ei,hi⟩:=emod_nat (m / 4) (n:=n+1) (by omega)
 have cp1:∀ a b c d e f g h i,capP [3] [a,b,c,some (.int m),d,e,f,g,h,i]= [some (.int m)]:=fun _ _ _ _ _ _ _ _ _=>rfl
 have b1:bel 4611686018427387904 ((n+1:Nat):Int)=true:=bel_iff.mpr (by omega)
 have l1:((List.range (n+1)).map fun i=>PV.int (0+((i:Nat):Int))).length<16777216:=by simp;omega
 have n1:F (k+3) .is_name [.str w]= .ok (.bl true):=by rw [K4.is_name (k+1) w (by omega) wlt,hw]
 have n2:=ho.no (k+1)
 have fo:=frz_d ho.dt
 have dod:=dr_d ho.dt
 have p1:F (k+3) .is_path [.tup (ws.map PV.str)]= .ok (.bl true):=by
  rw [is_path (k+2) (ws.map PV.str) (fun _=>true) (by omega) fun x hx=>?_,lm,decide_eq_true (by omega),Bool.true_and]
  ·congr 2
   exact List.all_eq_true.mpr fun _ _=>rfl
  ·obtain ⟨u,h,rfl⟩:=List.mem_map.mp hx
   obtain ⟨_,l8,_,lt⟩:=nameOk_len (ok u h)
   exact ⟨fun h=>frz_str h _,fun _=>rfl,by rw [K4.is_name k u (by omega) lt,ok u h]⟩
 have tt:=l_is (k+2) true true
 have ff:=l_is (k+2) false false
 have rt:(true==true)=true:=rfl
 have rf:(false==false)=true:=rfl
 have fs:=frz_strs ws
 have pos2:decide (0<((n+1:Nat):Int))=true:=decide_eq_true (by omega)
 have st:=fun h=>slt_to (xs:=ws.map PV.str) (i:=i) h (by omega)
 have sf:=fun h=>slt_from (xs:=ws.map PV.str) (i:=i) h (by omega)
 have c1:(i:Int)+1=((i+1:Nat):Int):=by omega
 have ad1:=fun h=>addE_tt (a:=(ws.map PV.str).take i) (b:= [odd]) h (by rw [List.length_take,List.length_singleton];omega)
 have ad2:=fun h=>addE_tt (a:=(ws.map PV.str).take i++ [odd]) (b:=(ws.map PV.str).drop (i+1)) h (by rw [List.length_append,List.length_take,List.length_drop,List.length_singleton];omega)
 have ad3:=fun h=>addE_tt (a:=ws.map PV.str) (b:= [.str [97],.str [98],.str [99],.str [100]]) h (by simp only [List.length_cons,List.length_nil];omega)
 have ls:∀ (l:List PV) h,pList [.tup l] h= .ok (.lst l) h:=fun _ _=>rfl
 have jt:=fun h=>joinT (ls:=ws) h (fun l hl=>(nameOk_len (ok l hl)).2.1) (by omega)
 have q1:0≤m / 16 % 6:=Int.emod_nonneg _ (by decide)
 have q2:m / 16 % 6<6:=Int.emod_lt_of_pos _ (by decide)
 have e6:=atI_getD (xs:=L6 ws odd i) PV.non q1 (by simpa [L6] using q2)
 have nv:=L6_no ok (by omega) (by omega) ho (show i<ws.length by omega) _ (dat_in e6)
 generalize (L6 ws odd i).getD (m / 16 % 6).toNat PV.non=v6 at *
 have f6:=nv.fz
 have d6:=nv.dr
 have p6:=nv.no k
 obtain ⟨r,er,hr⟩:=emod_nat m (n:=9) (by decide)
 have er:m % 9=(r:Int):=er
 have cm2:∀ h,compL tYesE (e_l_names_right_2 (F (k+3))) [some (.int m)] ((List.range r).map fun i=>PV.int (0+((i:Nat):Int))) h= .ok (((List.range r).map (fun j=> [sgC m j])).map PV.str) h:=by
  intro h
  rw [compL_map (f:=fun p=>match p with | .int j=>.str [sgC m j.toNat] | _=>.non)]
  ·simp [Function.comp_def]
  ·intro p hp
   obtain ⟨j,hj,rfl⟩:=List.mem_map.mp hp
   have:=(sg_elt (k+2) m j (by have:=List.mem_range.mp hj;omega) h).1
   simpa using this
 have jn:∀ h,pJoin (.str []) [.lst (((List.range r).map (fun j=> [sgC m j])).map PV.str)] h= .ok (.str ((List.range r).map (sgC m))) h:=fun h=>by
  rw [pJoin_l (by rw [sum_one _ (fun _=>rfl),List.length_range];omega),flat_one]
 have tm:((List.range r).map (sgC m)).all q_e84fa8.contains=true:=List.all_eq_true.mpr fun x hx=>by
  obtain ⟨j,hj,rfl⟩:=List.mem_map.mp hx
  exact List.contains_iff_mem.mpr (sg_elt 0 m j (by have:=List.mem_range.mp hj;omega) []).2
 have tl:((List.range r).map (sgC m)).length=r:=by simp
 generalize (List.range r).map (sgC m)=t at *
 have b2:bel 4611686018427387904 (r:Int)=true:=bel_iff.mpr (by omega)
 have l2:((List.range r).map fun i=>PV.int (0+((i:Nat):Int))).length<16777216:=by simp;omega
 have t1:F (k+3) .is_text [.str t,.int (t.length:Int)]= .ok (.bl true):=by
  rw [is_text_s (k+1) t _ (by omega),tm,decide_eq_true (Int.le_refl _)];rfl
 have t2:F (k+3) .is_text [.str (t++ [97]),.int (t.length:Int)]= .ok (.bl false):=by
  rw [is_text_s (k+1) (t++ [97]) _ (by rw [List.length_append,List.length_singleton];omega),decide_eq_false (by rw [List.length_append,List.length_singleton];omega),Bool.false_and]
 have z1:t.length+1≤16777216:=by omega
 have z0:t.length≤16777216:=by omega
 have pos3:decide (0<(t.length:Int)+1)=true:=decide_eq_true (by omega)
 have q3:0≤m / 90 % 5:=Int.emod_nonneg _ (by decide)
 have q4:m / 90 % 5<5:=Int.emod_lt_of_pos _ (by decide)
 have e5:=atI_getD (xs:=L5 t (m / 9 % ((t.length:Int)+1))) PV.non q3 (by simpa [L5] using q4)
 have nt:=L5_no (show t.length≤100 by omega) (m / 9 % ((t.length:Int)+1)) _ (dat_in e5)
 generalize (L5 t (m / 9 % ((t.length:Int)+1))).getD (m / 90 % 5).toNat PV.non=v5 at *
 have f5:=nt.fz
 have d5:=nt.dr
 have t5:=nt.no (k+1)
 have k1:=cut_len t none (some (m / 9 % ((t.length:Int)+1)))
 have k2:=cut_len t (some (m / 9 % ((t.length:Int)+1))) none
 have z2:(cut t none (some (m / 9 % ((t.length:Int)+1)))).length+1≤16777216:=by omega
 have z3:(cut t none (some (m / 9 % ((t.length:Int)+1)))).length+1+(cut t (some (m / 9 % ((t.length:Int)+1))) none).length≤16777216:=by omega
 have fg:=frzg ns
 show runF (b_l_names_right (F (k+3))) 1 10 [.giv (ns.map PV.int)]=_
 simp only [L6] at e6
 simp only [L5] at e5
 simp only [EV,runF,b_l_names_right,callO_def,fg,ca0,ca1,ca2,mx0,mx1,mx2,ew,eo,fo,dod,en,s1,b1,Int.toNat_natCast,l1,cp1,cm1,lm,pos2,ei,n1,n2,p1,tt,ff,rt,rf,fs,st,sf,c1,ad1,ad2,ad3,ls,jt,e6,f6,d6,p6,er,b2,l2,cm2,jn,t1,t2,z0,z1,pos3,z2,z3,e5,f5,d5,t5,List.length_append,finO]
open PySem.Builtin.Str in
theorem rc_lt(q c:Nat)(hq:q<1114112)(hc:c<1114112):∀ z∈reprChar q c,z<1114112:=by
  have hx:∀ w:Nat,∀ z∈List.replicate (w - ((Nat.toDigits 16 c).map Char.toNat).length) 48++(Nat.toDigits 16 c).map Char.toNat,z<1114112:=by
    intro w z hz
    rcases List.mem_append.mp hz with h | h
    · rw [List.eq_of_mem_replicate h];decide
    · obtain ⟨ch,_,rfl⟩:=List.mem_map.mp h
      have:=ch.valid
      rcases this with h | h<;>(simp only [Char.toNat];omega)
  unfold reprChar
  dsimp only
  intro z hz
  repeat' split at hz
  all_goals first
    | (simp only [List.mem_cons,List.not_mem_nil,or_false] at hz;rcases hz with rfl | rfl<;>first | assumption | decide)
    | (simp only [List.mem_cons,List.not_mem_nil,or_false] at hz;rcases hz with rfl;assumption)
    | (rcases List.mem_append.mp hz with h | h
       · simp only [List.mem_cons,List.not_mem_nil,or_false] at h
         rcases h with rfl | rfl<;>decide
       · exact hx _ z h)
open PySem.Builtin.Str in
theorem fold_lt(q:Nat)(hq:q<1114112):∀ (l:List Nat) (acc:Array Nat),(∀ c∈l,c<1114112)→(∀ z∈acc.toList,z<1114112)→∀ z∈(l.foldl (fun out c=>out++(reprChar q c).toArray) acc).toList,z<1114112
 | [],acc,_,h=>h
 | c::r,acc,hl,h=>by
  rw [List.foldl_cons]
  refine fold_lt q hq r _ (fun z hz=>hl z (List.mem_cons_of_mem _ hz)) fun z hz=>?_
  rw [Array.toList_append] at hz
  rcases List.mem_append.mp hz with e | e
  ·exact h z e
  ·exact rc_lt q c hq (hl c (by simp)) z e
theorem rt_lt(x:Str)(hx:∀ c∈x.cps.toList,c<1114112):∀ z∈(reprText x).cps.toList,z<1114112:=by
 intro z hz
 unfold reprText at hz
 have hq:reprQuote x<1114112:=by unfold reprQuote;split<;>decide
 simp only [Array.toList_push] at hz
 rcases List.mem_append.mp hz with e | e
 ·rw [← Array.foldl_toList] at e
  exact fold_lt _ hq x.cps.toList #[reprQuote x] hx (by intro y hy;simp at hy;rw [hy];exact hq) z e
 ·rw [List.mem_singleton.mp e];exact hq
theorem tf_lt:∀ (ts:List Str) (k:Nat) (acc:Str),(∀ c∈acc.cps.toList,c<1114112)→(∀ t∈ts,∀ c∈t.cps.toList,c<1114112)→∀ c∈(textFrom k acc ts).cps.toList,c<1114112
 | [],_,_,h,_=>h
 | t::r,k,acc,h,ht=>by
  rw [textFrom]
  refine tf_lt r (k+1) _ (fun c hc=>?_) fun x hx=>ht x (List.mem_cons_of_mem _ hx)
  rw [PyProof.Rows.mem_cps_append,PyProof.Rows.mem_cps_append] at hc
  rcases hc with (hc | hc) | hc
  ·exact h c hc
  ·split at hc
   ·rw [PyProof.Rows.signs_sep] at hc
    simp at hc
    omega
   ·rw [show (("":String):Str).cps.toList= [] by decide] at hc
    simp at hc
  ·exact ht t (List.mem_cons_self ..) c hc
theorem lt_lt(ts:List Str)(h:∀ t∈ts,∀ c∈t.cps.toList,c<1114112):∀ c∈(listText ts).cps.toList,c<1114112:=by
 intro c hc
 unfold listText at hc
 rw [PyProof.Rows.mem_cps_append] at hc
 rcases hc with hc | hc
 ·exact tf_lt ts 0 "[" (by decide) h c hc
 ·rw [show (("]":String):Str).cps.toList= [93] by decide] at hc
  rw [List.mem_singleton.mp hc];decide
theorem dt_lt(ts:List Str)(h:∀ t∈ts,∀ c∈t.cps.toList,c<1114112):∀ c∈(dictText ts).cps.toList,c<1114112:=by
 intro c hc
 unfold dictText at hc
 rw [PyProof.Rows.mem_cps_append,PyProof.Rows.mem_cps_append,PyProof.Rows.mem_join] at hc
 rcases hc with (hc | hc) | hc
 ·rw [show (("{":String):Str).cps.toList= [123] by decide] at hc
  rw [List.mem_singleton.mp hc];decide
 ·rcases hc with ⟨t,ht,hc⟩ | ⟨_,hc⟩
  ·exact h t ht c hc
  ·rw [PyProof.Rows.signs_sep] at hc
   simp at hc
   omega
 ·rw [show (("}":String):Str).cps.toList= [125] by decide] at hc
  rw [List.mem_singleton.mp hc];decide
def Sg(p:PV):Prop:=∀ c∈(toE p).shown.cps.toList,c<1114112
theorem sg_str{l:List Nat}(h:Lt l):Sg (.str l):=by
 unfold Sg
 rw [toE,PyData.shown]
 exact rt_lt _ (by rw [S_cps];exact h)
theorem sg_int(i:Int):Sg (.int i):=by
 unfold Sg
 rw [toE,PyData.shown]
 intro c hc
 have hc:c∈strI i:=hc
 rw [strI_eq] at hc
 split at hc
 ·have:=dig_all _ c hc;omega
 ·rcases List.mem_cons.mp hc with rfl | hc
  ·decide
  ·have:=dig_all _ c hc;omega
theorem sg_lst{xs:List PV}(h:∀ x∈xs,Sg x):Sg (.lst xs):=by
 unfold Sg
 rw [toE,PyData.shown]
 refine lt_lt _ ?_
 induction xs with
 | nil=>intro t ht;simp [toEs,PyData.shownAll] at ht
 | cons x r ih=>
  intro t ht
  rw [toEs,PyData.shownAll,List.mem_cons] at ht
  rcases ht with rfl | ht
  ·exact h x (List.mem_cons_self ..)
  ·exact ih (fun y hy=>h y (List.mem_cons_of_mem _ hy)) t ht
theorem sg_dct{xs:List (PK×PV)}(h:∀ p∈xs,keyG p.1=true∧Sg p.2):Sg (.dct xs):=by
 unfold Sg
 rw [toE,PyData.shown]
 refine dt_lt _ ?_
 induction xs with
 | nil=>intro t ht;simp [toEk,PyData.shownKv] at ht
 | cons p r ih=>
  intro t ht
  obtain ⟨q,v⟩:=p
  obtain ⟨h1,h2⟩:=h _ (List.mem_cons_self ..)
  rw [toEk,PyData.shownKv,List.mem_cons] at ht
  rcases ht with rfl | ht
  ·intro c hc
   rw [PyProof.Rows.mem_cps_append,PyProof.Rows.mem_cps_append] at hc
   rcases hc with (hc | hc) | hc
   ·cases q with
    | inl i=>exact (by have z:=sg_int i;unfold Sg at z;rw [toE] at z;exact z c hc)
    | inr l=>exact (by have z:=sg_str (keyG_lt h1);unfold Sg at z;rw [toE] at z;exact z c hc)
   ·rw [show ((": ":String):Str).cps.toList= [58,32] by decide] at hc
    simp at hc
    omega
   ·exact h2 c hc
  ·exact ih (fun y hy=>h y (List.mem_cons_of_mem _ hy)) t ht
theorem SG_lt:∀ c∈q_e84fa8,c<1114112:=by decide
theorem isV_sg:∀ (d:Nat) (p:PV),isV d p=true→dat p=true→Sg p
 | 0,_,h,_=>by simp [isV] at h
 | d+1,p,h,hd=>by
  cases p with
  | bl b=>cases b<;>(unfold Sg;rw [toE,PyData.shown];decide)
  | int i=>exact sg_int i
  | str l=>
   simp only [isV,Bool.and_eq_true,List.all_eq_true] at h
   exact sg_str fun c hc=>SG_lt c (List.contains_iff_mem.mp (h.2 c hc))
  | lst xs=>exact sg_lst fun x hx=>isV_sg d x ((isV_lst h).2 x hx) (dat_lst hd x hx)
  | dct kvs=>exact sg_dct fun p hp=>⟨((dat_dct hd).1 p hp).1,isV_sg d p.2 ((isV_dct h).2 p hp).2 ((dat_dct hd).1 p hp).2⟩
  | _=>simp [isV] at h
def LD:List PV:= [.lst [.lst [.lst [.lst [.lst [.lst []]]]]],.dct [(.inr [97],.lst [.dct [(.inr [98],.lst [.dct [(.inr [97],.dct [])]])]])],.lst [.lst [.lst [.lst [.lst [.dct []]]]],.int 5],.dct [(.inr [120],.dct [(.inr [120],.dct [(.inr [120],.dct [(.inr [120],.lst [.lst []])])])])]]
theorem LD_ok:∀ v∈LD,Gv 6 v:=by
 intro v hv
 simp only [LD,List.mem_cons,List.not_mem_nil,or_false] at hv
 rcases hv with rfl | rfl | rfl | rfl
 ·exact ⟨by decide+kernel,by decide+kernel,by decide+kernel,by decide+kernel⟩
 ·exact ⟨by decide+kernel,by decide+kernel,by decide+kernel,by decide+kernel⟩
 ·exact ⟨by decide+kernel,by decide+kernel,by decide+kernel,by decide+kernel⟩
 ·exact ⟨by decide+kernel,by decide+kernel,by decide+kernel,by decide+kernel⟩
theorem deepest(k:Nat)(c:Int):∃ v,F (k+1) .l_deepest [.int c]= .ok v∧Gv 6 v:=by
 obtain ⟨v,hv,e⟩:=at4 (xs:=LD) rfl c
 have g:=LD_ok v hv
 refine ⟨v,?_,g⟩
 have fv:=frz_d g.dt
 have dv:=dr_d g.dt
 show runF (b_l_deepest (F k)) 1 2 [.int c]=_
 unfold LD at e
 simp only [EV,runF,b_l_deepest,ev_dict1,key_s,e,fv,dv,finO]
structure GK(nm:List (List Nat))(kvs:List (PK×PV)):Prop where
 keys:kvs.map (·.1)=nm.map Sum.inr
 gv:∀ p∈kvs,Gv 6 p.2
 sub:∀ l∈nm,l∈NM4
 nd:nm.Nodup
 ln:nm.length≤4
theorem NM4_k:∀ l∈NM4,keyG (.inr l)=true∧nameOk l=true∧l.length≤3∧∀ c∈l,c∈q_c3fcd3:=by decide+kernel
section
variable {nm:List (List Nat)} {kvs:List (PK×PV)}
theorem GK.dt(g:GK nm kvs):dat (.dct kvs)=true:=mk_dct (fun p hp=>by
 obtain ⟨l,e,hl⟩:=st_of g.keys p hp
 exact ⟨by rw [e];exact (NM4_k l (g.sub l hl)).1,(g.gv p hp).dt⟩) (by
 rw [g.keys,List.nodup_iff_pairwise_ne,List.pairwise_map]
 exact (List.nodup_iff_pairwise_ne.mp g.nd).imp fun h e=>h (Sum.inr.inj e))
theorem GK.vs(g:GK nm kvs):Vs nm kvs:=⟨g.keys,g.dt,fun p hp=>(g.gv p hp).is,g.sub,g.ln⟩
theorem GK.repr(g:GK nm kvs):∃ R,(∀ h,pReprD [.dct kvs] h= .ok (.str R) h)∧Lt R:=by
 have kl:kvs.length=nm.length:=by have:=congrArg List.length g.keys;simpa using this
 have s:=shw_dct (n:=7) (by decide) (xs:=kvs) fun p hp=>by
  obtain ⟨l,e,hl⟩:=st_of g.keys p hp
  exact ⟨by rw [e];exact (NM4_k l (g.sub l hl)).2.1,isV_shw 6 p.2 (g.gv p hp).is⟩
 have z:=shown_dct (B:=BD 6) (xs:=kvs) fun p hp=>by
  obtain ⟨l,e,hl⟩:=st_of g.keys p hp
  refine ⟨?_,(g.gv p hp).sh⟩
  rw [e]
  exact (NM4_k l (g.sub l hl)).2.2
 have zl:(toE (.dct kvs)).shown.length≤sizeLine:=by
  have:=g.ln
  have b:BD 6=3493623:=rfl
  rw [b] at z
  rw [szl]
  have:(3493623+9) * kvs.length≤(3493623+9) * 4:=Nat.mul_le_mul_left _ (by omega)
  omega
 have ok:okE (.dct kvs)=true:=by
  unfold okE
  rw [s.dt,s.sh,decide_eq_true (by have:=s.dp;omega),decide_eq_true zl];rfl
 refine ⟨(toE (.dct kvs)).shown.cps.toList,fun h=>if_pos ok,?_⟩
 have sg:=sg_dct (xs:=kvs) fun p hp=>by
  obtain ⟨l,e,hl⟩:=st_of g.keys p hp
  exact ⟨by rw [e];exact (NM4_k l (g.sub l hl)).1,isV_sg 6 p.2 (g.gv p hp).is (g.gv p hp).dt⟩
 exact sg
end
noncomputable def tailL(C:Fn→List PV→Out):Sx:=sSeq (sSet 4 (cN pReprD (aCons (cFz (cVar 2)) aNil)))
  (sSeq (sFor (aSeq (cVar 1)) (gNm 5) (w_law_2 C))
  (sSeq (sIf (tCmpE (c2 pNe (cCall (C .l_needed) (aCons (cN pTuple (aCons (cVar 1) aNil)) (aCons (cFz (cVar 2)) aNil))) (cN pTup (aCons (cK .non) aNil)))) (sRet (cK (.bl false))) sNil)
  (sSeq (sIf (tNotE (tTruE (cCall (C .l_refused) (aCons (cVar 1) (aCons (cFz (cVar 2)) (aCons (cCall (C .l_mixed) (aCons (cCall (C .l_cell_at) (aCons (cVar 0) (aCons (cK (.int 9)) aNil))) (aCons (cK (.int 5)) aNil))) aNil)))))) (sRet (cK (.bl false))) sNil)
  (sRet (cAnd (c2 pEq (cCall (C .l_needed) (aCons (cN pTuple (aCons (cVar 1) aNil)) (aCons (cFz (cVar 2)) aNil))) (cN pTup (aCons (cK .non) aNil))) (c2 pEq (cN pReprD (aCons (cFz (cVar 2)) aNil)) (cVar 4)))))))
theorem law_parts(C:Fn→List PV→Out):b_law C=sSeq (sIf (tNotE (tTruE (cCall (C .l_names_right) (aCons (cVar 0) aNil)))) (sRet (cK (.bl false))) sNil)
  (sSeq (sSet 1 (cSl (cN pLst (aCons (cK (.str [97])) (aCons (cK (.str [98,98])) (aCons (cK (.str [97,98,99])) (aCons (cK (.str [120])) aNil))))) oNone (oSome (c2 pMod (cCall (C .l_cell_at) (aCons (cVar 0) (aCons (cK (.int 3)) aNil))) (cK (.int 5))))))
  (sSeq (sSet 2 cNewD)
  (sSeq (sFor (aRange1 (aCons (cN pLen (aCons (cVar 1) aNil)) aNil)) (gNm 3) (w_law_1 C))
  (sSeq (sIf (tAndE (tCmpE (c2 pNe (cVar 1) (cN pLst aNil))) (tCmpE (c2 pEq (c2 pMod (c2 pDiv (cCall (C .l_cell_at) (aCons (cVar 0) (aCons (cK (.int 3)) aNil))) (cK (.int 5))) (cK (.int 3))) (cK (.int 1))))) (sSetD (cVar 2) (c2 pIx (cVar 1) (cK (.int 0))) (cCall (C .l_deepest) (aCons (c2 pDiv (cCall (C .l_cell_at) (aCons (cVar 0) (aCons (cK (.int 3)) aNil))) (cK (.int 15))) aNil))) sNil)
  (tailL C))))):=rfl
theorem looks_loop(ns:List Int){nm:List (List Nat)}{kvs:List (PK×PV)}(g:GK nm kvs)(a o3 o4:Option PV):∀ (l:List (List Nat)) (o:Option PV),(∀ x∈l,x∈nm)→∃ o',loopS (gNm 5) (w_law_2 (F 29)) (l.map PV.str) [some (.giv (ns.map PV.int)),a,some (.ref 0),o3,o4,o] [.froz (.dct kvs)]= .nx [some (.giv (ns.map PV.int)),a,some (.ref 0),o3,o4,o'] [.froz (.dct kvs)]
 | [],o,_=>⟨o,rfl⟩
 | x::r,o,h=>by
  obtain ⟨o',e⟩:=looks_loop ns g a o3 o4 r (some (.str x)) fun y hy=>h y (List.mem_cons_of_mem _ hy)
  refine ⟨o',?_⟩
  obtain ⟨v,hv⟩:=g.vs.at (h x (List.mem_cons_self ..))
  have vv:=valP_mem (dat_dct g.dt).2 hv
  have gv:=g.gv _ hv
  have fv:=frz_d gv.dt
  have dv:=dr_d gv.dt
  have ca:F 29 .l_cell_at [.giv (ns.map PV.int),.int 8]= .ok (.int (cellA ns 8)):=cell_at 28 ns 8
  have mx:F 29 .l_mixed [.int (cellA ns 8),.int 4]= .ok (.int (mix (cellA ns 8) 4)):=mixed 28 (cellA ns 8) 4 (by decide)
  have lk:=looks_eq 29 v (mix (cellA ns 8) 4) (by decide) gv.is gv.dt gv.ne
  have fg:=frzg ns
  rw [List.map_cons,ev_loop]
  simp only [EV,w_law_2,vv,fv,dv,fg,callO_def,ca,mx,lk]
  exact e
theorem tup_non_ne(h:List L3.PO):pNe (.tup [.non]) (.tup [.non]) h= .ok (.bl false) h:=rfl
theorem tup_non_eq(h:List L3.PO):pEq (.tup [.non]) (.tup [.non]) h= .ok (.bl true) h:=rfl
theorem tail_law(ns:List Int){nm:List (List Nat)}{kvs:List (PK×PV)}(g:GK nm kvs)(o3:Option PV):∃ h',tailL (F 29) [some (.giv (ns.map PV.int)),some (.lst (nm.map PV.str)),some (.ref 0),o3,none,none] [.dct kvs]= .rt (.bl true) h':=by
 obtain ⟨R,eR,ltR⟩:=g.repr
 obtain ⟨o5,lp⟩:=looks_loop ns g (some (.lst (nm.map PV.str))) o3 (some (.str R)) nm none fun _ h=>h
 have zz:=fz_d0 (l:=kvs) [] (by have:=dat_pure _ g.dt;simpa [PV.pure] using this)
 have fzk:=fz_d g.dt
 have fk:=frz_d g.dt
 have ft:=frz_strs nm
 have fl:∀ h,frzV h (.lst (nm.map PV.str))=some (.lst (nm.map PV.str),h):=fun h=>frz_lst h (by
  rw [pures_map,List.all_map,List.all_eq_true];intro x _;rfl)
 have nd:=needed_eq 27 g.vs.nk (by decide)
 rw [g.vs.need] at nd
 have nd:F 29 .l_needed [.tup (nm.map PV.str),.dct kvs]= .ok (.tup [.non]):=nd
 have ca:F 29 .l_cell_at [.giv (ns.map PV.int),.int 9]= .ok (.int (cellA ns 9)):=cell_at 28 ns 9
 have mx:F 29 .l_mixed [.int (cellA ns 9),.int 5]= .ok (.int (mix (cellA ns 9) 5)):=mixed 28 (cellA ns 9) 5 (by decide)
 have rf:F 29 .l_refused [.lst (nm.map PV.str),.dct kvs,.int (mix (cellA ns 9) 5)]= .ok (.bl true):=refused_eq 26 (by decide) g.vs (mix (cellA ns 9) 5)
 have fg:=frzg ns
 have es:=fun h=>pEq_ss R R h ltR ltR
 have rr:decide (R=R)=true:=decide_eq_true rfl
 exact ⟨_,by simp only [EV,tailL,zz,eR,lp,fzk,fk,ft,fl,fg,callO_def,nd,tup_non_ne,tup_non_eq,ca,mx,rf,es,rr];rfl⟩
section
variable (ns:List Int)
noncomputable def VV(i:Nat):List (PK×PV):=(List.range i).map fun j=>(.inr (NM4.getD j []),getO (F 29 .l_value_by [.int (mix (cellA ns (4+j)) j),.int 6]))
theorem VV_succ(i:Nat):VV ns (i+1)=VV ns i++ [(.inr (NM4.getD i []),getO (F 29 .l_value_by [.int (mix (cellA ns (4+i)) i),.int 6]))]:=by
 unfold VV
 rw [List.range_succ,List.map_append];rfl
theorem VV_gv{i:Nat}:∀ p∈VV ns i,Gv 6 p.2:=fun p hp=>by
 obtain ⟨j,hj,rfl⟩:=List.mem_map.mp hp
 obtain ⟨v,e,g⟩:=value_by 6 29 (mix (cellA ns (4+j)) j) (by decide) (by decide) (by decide)
 have e:F 29 .l_value_by [.int (mix (cellA ns (4+j)) j),.int 6]= .ok v:=e
 dsimp only
 rw [e];exact g
theorem VV_keys(i:Nat):(VV ns i).map (·.1)=((List.range i).map fun j=>NM4.getD j []).map Sum.inr:=by
 unfold VV
 rw [List.map_map,List.map_map];rfl
theorem NM_ne:∀ i<4,∀ x<i,NM4.getD x []≠NM4.getD i []:=by decide
theorem VV_new{i:Nat}(hi:i<4):(Sum.inr (NM4.getD i []):PK)∉(VV ns i).map (·.1):=by
 rw [VV_keys,List.map_map]
 intro h
 obtain ⟨x,hx,e⟩:=List.mem_map.mp h
 exact NM_ne i hi x (List.mem_range.mp hx) (Sum.inr.inj e)
theorem vv_loop{nm:List (List Nat)}{L:Nat}(hL:L≤4)(hnm:∀ i<L,atI (nm.map PV.str) (i:Int)=some (.str (NM4.getD i []))):∀ (r i:Nat) (o3:Option PV),i+r=L→
  ∃ o3',loopS (gNm 3) (w_law_1 (F 29)) ((List.range' i r).map fun x=>PV.int (0+((x:Nat):Int))) [some (.giv (ns.map PV.int)),some (.lst (nm.map PV.str)),some (.ref 0),o3,none,none] [.dct (VV ns i)]= .nx [some (.giv (ns.map PV.int)),some (.lst (nm.map PV.str)),some (.ref 0),o3',none,none] [.dct (VV ns L)]
 | 0,i,o3,e=>⟨o3,by
  obtain rfl:i=L:=by omega
  rfl⟩
 | r+1,i,o3,e=>by
  obtain ⟨o3',w⟩:=vv_loop hL hnm r (i+1) (some (.int (i:Int))) (by omega)
  refine ⟨o3',?_⟩
  obtain ⟨v,ev,gv⟩:=value_by 6 29 (mix (cellA ns (4+i)) i) (by decide) (by decide) (by decide)
  have ev:F 29 .l_value_by [.int (mix (cellA ns (4+i)) i),.int 6]= .ok v:=ev
  have f:=frz_d gv.dt
  have ca:=cell_at 28 ns (4+i)
  have c4:(4:Int)+(i:Int)=((4+i:Nat):Int):=by omega
  have mx:=mixed 28 (cellA ns (4+i)) i (by omega)
  have ca:F 29 .l_cell_at [.giv (ns.map PV.int),.int ((4+i:Nat):Int)]=_:=ca
  have mx:F 29 .l_mixed [.int (cellA ns (4+i)),.int (i:Int)]=_:=mx
  have fg:=frzg ns
  have at1:=hnm i (by omega)
  have ln:(VV ns i).length<16777216:=by unfold VV;simp;omega
  have pn:=putP_new (v:=v) (VV_new ns (show i<4 by omega))
  have es:=VV_succ ns i
  rw [ev] at es
  simp only [getO] at es
  rw [es] at w
  have z0:(0:Int)+((i:Nat):Int)=(i:Int):=by omega
  rw [List.range'_succ,List.map_cons,ev_loop]
  simp only [EV,w_law_1,z0,c4,fg,callO_def,ca,mx,ev,at1,ln,pn]
  exact w
end
theorem NM_take:∀ n<5,((List.range (NM4.take n).length).map fun j=>NM4.getD j [])=NM4.take n:=by decide
theorem NM_at:∀ n<5,∀ i<(NM4.take n).length,atI ((NM4.take n).map PV.str) (i:Int)=some (.str (NM4.getD i [])):=by
 intro n hn i hi
 have ht:=NM_take n hn
 refine atI_at (by omega) ?_
 rw [List.getElem?_map]
 have:(NM4.take n)[i]? =some (NM4.getD i []):=by
  have z:=congrArg (fun l=>l[i]?) ht
  rw [← z,List.getElem?_map,List.getElem?_range hi];rfl
 rw [show ((i:Nat):Int).toNat=i by omega,this];rfl
theorem NM_sub(n:Nat):∀ l∈NM4.take n,l∈NM4:=fun l h=>List.mem_of_mem_take h
theorem NM_nd:∀ n<5,(NM4.take n).Nodup:=by decide
theorem NM_zero:∀ n<5,(NM4.take n).isEmpty=false→atI ((NM4.take n).map PV.str) 0=some (.str [97])∧ [97]∈NM4.take n:=by
 intro n hn h
 rcases n with _ | _ | _ | _ | _ | n
 ·exact absurd h (by decide)
 ·exact ⟨rfl,by decide⟩
 ·exact ⟨rfl,by decide⟩
 ·exact ⟨rfl,by decide⟩
 ·exact ⟨rfl,by decide⟩
 ·omega
theorem law_true:∀ ns:List Int,ns.length≤63→F 30 .law [.giv (ns.map PV.int)]= .ok (.bl true):=by
 intro ns _
 show runF (b_law (F 29)) 1 6 [.giv (ns.map PV.int)]=_
 have nr:F 29 .l_names_right [.giv (ns.map PV.int)]= .ok (.bl true):=names_right 25 ns
 have ca:F 29 .l_cell_at [.giv (ns.map PV.int),.int 3]= .ok (.int (cellA ns 3)):=cell_at 28 ns 3
 have fg:=frzg ns
 obtain ⟨n,en,hn⟩:=emod_nat (cellA ns 3) (n:=5) (by decide)
 have en:cellA ns 3 % 5=(n:Int):=en
 have ct:cut [PV.str [97],.str [98,98],.str [97,98,99],.str [120]] none (some (n:Int))=(NM4.take n).map PV.str:=by
  rw [cut_to,List.map_take];rfl
 have hl4:(NM4.take n).length≤4:=by rw [List.length_take];have:NM4.length=4:=rfl;omega
 have lm:((NM4.take n).map PV.str).length=(NM4.take n).length:=List.length_map ..
 obtain ⟨o3,lp⟩:=vv_loop ns hl4 (NM_at n hn) (NM4.take n).length 0 none (by omega)
 rw [← List.range_eq_range'] at lp
 have lp:loopS (gNm 3) (w_law_1 (F 29)) ((List.range (NM4.take n).length).map fun x=>PV.int (0+((x:Nat):Int))) [some (.giv (ns.map PV.int)),some (.lst ((NM4.take n).map PV.str)),some (.ref 0),none,none,none] [.dct []]=_:=lp
 have b1:bel 4611686018427387904 ((NM4.take n).length:Int)=true:=bel_iff.mpr (by omega)
 have g0:GK (NM4.take n) (VV ns (NM4.take n).length):=⟨by rw [VV_keys,NM_take n hn],VV_gv ns,NM_sub n,NM_nd n hn,hl4⟩
 have nn:=ne_nil g0.vs.nk.lt
 have ln:(VV ns (NM4.take n).length).length<16777216:=by unfold VV;simp;omega
 rw [law_parts]
 by_cases q:(NM4.take n).isEmpty=false∧cellA ns 3 / 5 % 3=1
 ·obtain ⟨q1,q2⟩:=q
  obtain ⟨z1,z2⟩:=NM_zero n hn q1
  obtain ⟨v,ev,gv⟩:=deepest 28 (cellA ns 3 / 15)
  have ev:F 29 .l_deepest [.int (cellA ns 3 / 15)]= .ok v:=ev
  have mk:(Sum.inr [97]:PK)∈(VV ns (NM4.take n).length).map (·.1):=by rw [g0.keys];exact List.mem_map.mpr ⟨_,z2,rfl⟩
  have g1:GK (NM4.take n) (putP (VV ns (NM4.take n).length) (.inr [97]) v):=⟨by rw [putP_keys mk];exact g0.keys,fun p hp=>by
   rcases putP_vals mk hp with h | h
   ·exact g0.gv p h
   ·rw [h];exact gv,NM_sub n,NM_nd n hn,hl4⟩
  obtain ⟨h',tl⟩:=tail_law ns g1 o3
  have q2:decide (cellA ns 3 / 5 % 3=1)=true:=decide_eq_true q2
  have fv:=frz_d gv.dt
  simp only [EV,runF,callO_def,fg,nr,ca,en,ct,lm,b1,Int.toNat_natCast,lp,nn,q1,pEq_ii,q2,z1,ev,fv,ln,tl,finO]
 ·obtain ⟨h',tl⟩:=tail_law ns g0 o3
  cases q1:(NM4.take n).isEmpty with
  | true=>simp only [EV,runF,callO_def,fg,nr,ca,en,ct,lm,b1,Int.toNat_natCast,lp,nn,q1,tl,finO]
  | false=>
   have q2:decide (cellA ns 3 / 5 % 3=1)=false:=decide_eq_false fun z=>q ⟨q1,z⟩
   simp only [EV,runF,callO_def,fg,nr,ca,en,ct,lm,b1,Int.toNat_natCast,lp,nn,q1,pEq_ii,q2,tl,finO]
end K4
def PySem.W.Fast.tw10835522765113040795 : Unit := ()
def PySem.W.Fast.tw15748208510035932776 : Unit := ()
def PySem.W.Fast.tw17478142314412581649 : Unit := ()
def PySem.W.Fast.tw6713263545963342871 : Unit := ()
def PySem.W.Fast.tw17252860426666801285 : Unit := ()
def PySem.W.Fast.tw12387264671158412156 : Unit := ()
def PySem.W.Fast.tw4601494434510306658 : Unit := ()
def PySem.W.Fast.tw7294826123306352348 : Unit := ()
def PySem.W.Fast.tw4987525562034766585 : Unit := ()
def PySem.W.Fast.tw334951879929685862 : Unit := ()
def PySem.W.Fast.tw12513793359607914297 : Unit := ()
def PySem.W.Fast.tw15233920198426332098 : Unit := ()
def PySem.W.Fast.tw10786233347650558260 : Unit := ()
def PySem.W.Fast.tw8395389878794017092 : Unit := ()
def PySem.W.Fast.tw6994992970358891640 : Unit := ()
def PySem.W.Fast.tw16173313319584495857 : Unit := ()
def PySem.W.Fast.tw4490748860926429027 : Unit := ()
def PySem.W.Fast.tw8355532184046243948 : Unit := ()
def PySem.W.Fast.tw18164638916148157495 : Unit := ()
def PySem.W.Fast.tw15751572520490750212 : Unit := ()
def PySem.W.Fast.tw6127318750455232406 : Unit := ()
def PySem.W.Fast.tw18326956230820099195 : Unit := ()
def PySem.W.Fast.tw9404114404204980583 : Unit := ()
def PySem.W.Fast.tw1504056260632209444 : Unit := ()
def PySem.W.Fast.tw8958103950195381986 : Unit := ()
def PySem.W.Fast.tw15668513933488097676 : Unit := ()
def PySem.W.Fast.tw10936437358590779986 : Unit := ()
def PySem.W.Fast.tw1288315266169878595 : Unit := ()
def PySem.W.Fast.tw5681491456086633152 : Unit := ()
def PySem.W.Fast.tw1350037993857801579 : Unit := ()
def PySem.W.Fast.tw7843065754307055714 : Unit := ()
def PySem.W.Fast.tw5296669530011933987 : Unit := ()
def PySem.W.Fast.tw18435583372226066637 : Unit := ()
def PySem.W.Fast.tw18014583195785083134 : Unit := ()
def PySem.W.Fast.tw9856431802496818479 : Unit := ()
def PySem.W.Fast.tw14556788420597498938 : Unit := ()
def PySem.W.Fast.tw3590536893111315015 : Unit := ()
def PySem.W.Fast.tw16744372736016260336 : Unit := ()
def PySem.W.Fast.tw17234235578657091180 : Unit := ()
def PySem.W.Fast.tw14101442692816621436 : Unit := ()
def PySem.W.Fast.tw18430282391860527815 : Unit := ()
def PySem.W.Fast.tw6442005078036438813 : Unit := ()
def PySem.W.Fast.tw11995092454819889134 : Unit := ()
def PySem.W.Fast.tw11065744646087874040 : Unit := ()
def PySem.W.Fast.tw15726800331112436014 : Unit := ()
def PySem.W.Fast.tw5975497914250952295 : Unit := ()
def PySem.W.Fast.tw4542711489902507760 : Unit := ()
def PySem.W.Fast.tw5598624467609187961 : Unit := ()
def PySem.W.Fast.tw13468555459295476005 : Unit := ()
def PySem.W.Fast.tw17630353699263268670 : Unit := ()
def PySem.W.Fast.tw7827333196366205603 : Unit := ()
def PySem.W.Fast.tw1233869367258229125 : Unit := ()
def PySem.W.Fast.tw1629403819838559068 : Unit := ()
def PySem.W.Fast.tw11568038838360173848 : Unit := ()
def PySem.W.Fast.tw11457439599396459066 : Unit := ()
def PySem.W.Fast.tw637967151146648533 : Unit := ()
def PySem.W.Fast.tw7274870165722015458 : Unit := ()
def PySem.W.Fast.tw17455050801771684741 : Unit := ()
def PySem.W.Fast.tw3541276868805058342 : Unit := ()
def PySem.W.Fast.tw7505993810415141235 : Unit := ()
def PySem.W.Fast.tw16177674228779869813 : Unit := ()
def PySem.W.Fast.tw17056183245235630327 : Unit := ()
def PySem.W.Fast.tw6249338483697804171 : Unit := ()
def PySem.W.Fast.tw8245155408331643172 : Unit := ()
def PySem.W.Fast.tw5469909496755096093 : Unit := ()
def PySem.W.Fast.tw7360637475637784226 : Unit := ()
def PySem.W.Fast.tw7458598312406932701 : Unit := ()
open PySem PySem.W PyProof.Rows
set_option maxRecDepth 100000 in
set_option maxHeartbeats 0 in
theorem PySem.Challenge.cw_formsmith_k04_names_and_values_holds : PySem.Challenge.rw_formsmith_k04_names_and_values.Holds := by
  w_on; o_law; k_head; (case hw => w_witness2)
  k_fill
  refine L3.law_walk (l := PySem.Challenge.rw_formsmith_k04_names_and_values) (k := 30) (x := "_law_script") rfl rfl ⟨rfl, by decide, by decide, rfl⟩ (fun w h Y => PySem.W.kIn_of Y) ?F
  case F =>
    intro w mg fa h KX G hmg
    refine' K4.all_mk K4.law_true KX G hmg ?aC_FormError ?aC_BadWay ?aC_BadValue ?aC_BadValues ?aC_TooMany ?aC_Clash ?aC_BadText ?aC_BadName ?aC_Unclear ?aC_NoFill ?cg1 ?cg2 ?kc1_BadValues ?kc2_BadValues ?kc3_BadValues ?ki_BadValues_BadName ?ki_BadValues_BadText ?ki_BadValues_BadValue ?ki_BadValues_BadValues ?ki_BadValues_BadWay ?ki_BadValues_Clash ?ki_BadValues_NoFill ?ki_BadValues_TooMany ?ki_BadValues_Unclear ?ki_BadValues_ValueError ?xc1_BadValues ?xc2_BadValues ?xc3_BadValues ?xr_BadValues ?ex_BadValues_FormError ?hf ?g_MOST_DEPTH ?g_MOST_FIELDS ?g_MOST_LETTERS ?g_MOST_NAMES ?g_MOST_SIGNS ?g_MOST_THINGS ?g_SIGNS ?g_SMALL_LETTERS ?g_COMMAND_WORDS ?k_COMMAND_WORDS ?hn
    (case aC_FormError => k_is)
    (case aC_BadWay => k_is)
    (case aC_BadValue => k_is)
    (case aC_BadValues => k_is)
    (case aC_TooMany => k_is)
    (case aC_Clash => k_is)
    (case aC_BadText => k_is)
    (case aC_BadName => k_is)
    (case aC_Unclear => k_is)
    (case aC_NoFill => k_is)
    (case cg1 => k_is)
    (case cg2 => k_is)
    (case kc1_BadValues => k_is)
    (case kc2_BadValues => k_is)
    (case kc3_BadValues => first | rfl | kernel_rfl)
    (case ki_BadValues_BadName => kit_is)
    (case ki_BadValues_BadText => kit_is)
    (case ki_BadValues_BadValue => kit_is)
    (case ki_BadValues_BadValues => kit_is)
    (case ki_BadValues_BadWay => kit_is)
    (case ki_BadValues_Clash => kit_is)
    (case ki_BadValues_NoFill => kit_is)
    (case ki_BadValues_TooMany => kit_is)
    (case ki_BadValues_Unclear => kit_is)
    (case ki_BadValues_ValueError => kit_is)
    (case xc1_BadValues => k_is)
    (case xc2_BadValues => k_is)
    (case xc3_BadValues => k_is)
    (case xr_BadValues => k_exc)
    (case ex_BadValues_FormError => kts_exm)
    (case hf => intro f; cases f <;> (refine' K4.fq ?a ?l ?c ?k ?b; (case a => k_is); (case l => k_is); (case c => k_is); (case k => k_is); (case b => intro _ _ _ _ _ _ us hl; rcases us with _ | ⟨_, _ | ⟨_, _ | ⟨_, _ | ⟨_, _⟩⟩⟩⟩ <;> first | rfl | cases hl)))
    (case g_MOST_DEPTH => k_is)
    (case g_MOST_FIELDS => k_is)
    (case g_MOST_LETTERS => k_is)
    (case g_MOST_NAMES => k_is)
    (case g_MOST_SIGNS => k_is)
    (case g_MOST_THINGS => k_is)
    (case g_SIGNS => k_is)
    (case g_SMALL_LETTERS => k_is)
    (case g_COMMAND_WORDS => k_is)
    (case k_COMMAND_WORDS => k_is)
    (case hn => intro i; cases i <;> k_is)
